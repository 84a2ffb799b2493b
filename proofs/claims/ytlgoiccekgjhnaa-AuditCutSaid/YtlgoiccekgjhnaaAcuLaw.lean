/-
  The law AuditCut as a walk over any log that keeps the bundle. Conditions: the bundle.
-/
import Derived.Test.YtlgoiccekgjhnaaAgwLaw
namespace Go.Proofs.Ytlgoiccekgjhnaa
open Go.ChangeShapes Go.WideShapes Go.ChangeAt Go.RowKit Go.Maps
set_option linter.unusedVariables false
set_option linter.unusedSimpArgs false
set_option maxHeartbeats 8000000
set_option maxRecDepth 100000

/-- An entry of a map's literal, at the operation. -/
theorem wpList_insert_own {H : Type} {P : Program} (w : World) {ops : Array Oper} {rest : List Oper} {o : Oper} {a : Act} {Q : Exit → Act → World → Prop}
    (hg : o.guard = none) (m x v : Operand) (t : TypeId) (hop : o.op = Op.insert t m x v)
    (k e : TypeId) (K : Keyed P k) (ht : P.underlying t = some (.map k e)) (R : Value → Option (DataW H × List MemPlace)) (b n : Nat) (D : DataW H)
    (hm : a.eval m = .map (some b)) (hown : w.ownsMap P k R b n D) (hn : n < maxLen) (key val : Value) (kl : Lit) (hx : a.eval x = key) (hv : a.eval v = val) (hkey : keyOf P k key = some kl)
    (d : DataW H) (ps : List MemPlace) (hval : R val = some (d, ps))
    (hK : ∀ w', w'.ownsMap P k R b (n + 1) (D.put kl d) → w.grownBy w' (some b) → wpList P ops Q rest (a.put o.dst undef) w') :
    wpList P ops Q (o :: rest) a w := by
  refine wpList_plain hg fun K' hK' => ?_
  obtain ⟨w', hrun, r1, r2⟩ := hown.update K ht hn hkey hval
  unfold Oper.wp
  simp [execOp, hop, hm, hx, hv, hrun, Result.andThen]
  exact hK' _ _ (hK w' r1 r2)
/-- Where the records of a log end, in a map: the length of the bytes of the first m records leads to m. -/
def Ends (D : DataW Value) (L : List Ev5) : Prop := ∀ z, Ri z → (∃ m : Nat, m ≤ L.length ∧ z = ((lgB start (L.take m)).length : Int) ∧ has D (.int .i64 z) = true ∧ D.atKey (.int .i64 z) (.held (.int .i64 0)) = .held (.int .i64 (m : Int))) ∨
  ((∀ m : Nat, m ≤ L.length → z ≠ ((lgB start (L.take m)).length : Int)) ∧ has D (.int .i64 z) = false)
theorem Ends.first : Ends ((DataW.map [] : DataW Value).put (.int .i64 0) (.held (.int .i64 0))) [] := fun z hz => by
  by_cases e : z = 0
  · subst e
    exact .inl ⟨0, Nat.le_refl _, rfl, has_put_same ⟨[], rfl⟩ (isKey3 hz) _, atKey_put_same ⟨[], rfl⟩ (isKey3 hz) _ _⟩
  · refine .inr ⟨fun m hm => ?_, (has_put_other (lit_ne e) _).trans rfl⟩
    simp only [List.take_nil, lgB, List.length_nil]
    exact e
theorem Ends.step {D : DataW Value} {L : List Ev5} {x : Ev5} (hM : IsMap D) (h : Ends D L) (N : Nat) (hN : (lgB start (L ++ [x])).length = N) : Ends (D.put (.int .i64 (N : Int)) (.held (.int .i64 ((L.length : Int) + 1)))) (L ++ [x]) := fun z hz => by
  by_cases e : z = (N : Int)
  · subst e
    refine .inl ⟨L.length + 1, by simp, ?_, has_put_same hM (isKey3 hz) _, ?_⟩
    · rw [List.take_of_length_le (by simp), hN]
    · rw [atKey_put_same hM (isKey3 hz)]
      rfl
  · have ht : ∀ m, m ≤ L.length → (L ++ [x]).take m = L.take m := fun m hm => by rw [List.take_append_of_le_length hm]
    rcases h z hz with ⟨m, h1, h2, h3, h4⟩ | ⟨h1, h2⟩
    · exact .inl ⟨m, by simp; omega, by rw [ht m h1]; exact h2, (has_put_other (lit_ne e) _).trans h3, (atKey_put_other (lit_ne e) _ _).trans h4⟩
    · refine .inr ⟨fun m hm => ?_, (has_put_other (lit_ne e) _).trans h2⟩
      rw [List.length_append, List.length_singleton] at hm
      by_cases hm1 : m ≤ L.length
      · rw [ht m hm1]
        exact h1 m hm1
      · rw [List.take_of_length_le (by simp; omega), hN]
        exact e
/-- A cut of events from the right. -/
theorem evs_hi (A : Option Addr) (n c k : Nat) (l : List Ev5) (hk : k ≤ n) (hc : n ≤ c) :
    ∃ A', (∀ wx : World, (Instr.slice 35 (.slice A n c) none (some (.int .i64 (k : Int))) none).run Try.prog wx = .ok (.slice A' k c) wx) ∧ ∀ (w : World) (B : Nat), Kws ev5 w B A n c l → Kws ev5 w B A' k c (l.take k) := by
  refine ⟨if c = 0 then A else A.map (·.add 0), fun wx => ?_, fun w B h => ?_⟩
  · rw [run_slice_h (P := Try.prog) wx 35 A n c Try.underlying35 .i64 (k : Int) (by omega) (by omega)]
    simp [sliced, go_sem]
  · have h1 := (h.drop (k := 0) (by omega)).take (k := k) (by omega)
    simpa using h1
section
variable {Lg : LgP} (C : AuC Lg)
include C
theorem auditCut_all (a0 : Option Addr) (len0 cap0 : Nat) (z0 : List Int) (a1 a2 : Int) (w : World) (w0 : IsRow .u16 w a0 len0 cap0 z0) (w1 : (Lit.int .u8 a1).wf = true) (w2 : (Lit.int .u16 a2).wf = true) :
    Calls Try.prog 9 #[.slice a0 len0 cap0, .int .u8 a1, .int .u16 a2] w fun e w' => e = .returned (.bool true) ∧ Below w.heap.size w w' := by
  obtain ⟨hrow, hfit⟩ := w0.row
  generalize z0.take len0 = T0 at hrow hfit
  have HOF := Lib.hid (of_any a0 len0 cap0 T0 100 w hrow (by omega))
  have HFT := Lib.hid (hfit.take 100)
  have htl : (T0.take 100).length ≤ 900 := by rw [List.length_take]; omega
  generalize T0.take 100 = T at *
  obtain ⟨b10, b11⟩ := byte_bd w1
  obtain ⟨b20, b21⟩ := u16_bd w2
  have s0 : 0 ≤ a1 % 8 := Int.emod_nonneg _ (by omega)
  have s1 : a1 % 8 < 8 := Int.emod_lt_of_pos _ (by omega)
  have e4 : IntKind.i64.wrap (1 + a1 % 8) = 1 + a1 % 8 := IntWalk.i64_in _ (by omega)
  obtain ⟨mst, hms⟩ := Int.eq_ofNat_of_zero_le (show 0 ≤ 1 + a1 % 8 by omega)
  have hm7 : mst ≤ 8 := by omega
  have HTL := Lib.hid htl
  clear w0 w1 w2 hrow hfit htl
  go_enter Try.func9, Try.ntmps9
  go_wp2_with fail
  refine HOF.out.mono ?_
  rintro e w2 ⟨b, rfl, hts2, hge, hb2⟩
  have HEV := Lib.hid (evs_made (w0 := w) (most := mst) hts2 hge hb2 HFT.out HTL.out (by omega))
  clear hts2 hb2 HOF hge
  go_wp2_with fail
  first | rw [hms] | skip
  clear hms s0 s1 e4
  refine HEV.out.mono ?_
  rintro e w3 ⟨v3, l, rfl, hgl, hll, hov, hb3⟩
  obtain ⟨A, n, cp, rfl, hk3⟩ := hov.shape
  have hcapn := hk3.cap
  have hsmn := hk3.small
  have hlen := hk3.len
  unfold maxLen at hsmn
  have HB3 := Lib.hid hb3
  have HK3 := Lib.hid hk3
  have HGL := Lib.hid hgl
  have hn7 : n ≤ 8 := by omega
  have HN := Lib.hid (C.newOk 100 w3 (fun _ => 0) 1 (by omega) (by omega))
  clear HEV hgl hov hb3 hk3
  go_wp2_with fail
  refine HN.out.mono ?_
  rintro e w4 ⟨p, rfl, hp, hL, hb4⟩
  have hA4 : Al Lg w3 (rc (fun _ => 0) w3.heap.size 1) p 100 [] [] w4 := ⟨fun g hg => rc_old hg, hb4, hL⟩
  have hown : (w4.alloc (.map #[] 0)).ownsMap Try.prog 3 tk w4.heap.size 0 (.map []) := World.ownsMap_made w4 Try.prog 3 tk
  have hb5 : Below w4.heap.size w4 (w4.alloc (.map #[] 0)) := (Below.refl _ _).alloc (Nat.le_refl _) _
  obtain ⟨k5, hA5, hold5, hnew5⟩ := Al.go C hA4 hb5
  have HA5 := Lib.hid hA5
  have HZ5 : Hid (k5 w4.heap.size = 0 ∧ w3.heap.size ≤ w4.heap.size) := Lib.hid ⟨hnew5 _ (Nat.le_refl _), hb4.size⟩
  have hmk := mk_mapI w4
  have hri0 : Ri 0 := Ri.of (by omega)
  clear HN hp hL hb4 hA4 hb5 hA5 hold5 hnew5
  go_wp2_with (first | (refine wpList_insert_own _ rfl _ _ _ 48 rfl 3 3 law3 Try.underlying48 tk w4.heap.size 0 _ rfl hown (by unfold maxLen; omega) _ _ _ rfl rfl (key3 hri0) (.held (.int .i64 0)) [] rfl ?_; intro w6 hown6 hg6) | go_in)
  have HST : Hid (∃ c D, Al Lg w3 c p 100 (l.take 0) [] w6 ∧ c w4.heap.size = 0 ∧ w3.heap.size ≤ w4.heap.size ∧ w6.ownsMap Try.prog 3 tk w4.heap.size (0 + 1) D ∧ Ends D (l.take 0)) :=
    Lib.hid ⟨k5, _, Al.own C HA5.out hg6 (fun g e => by cases e; exact HZ5.out) (fun _ _ => rfl), HZ5.out.1, HZ5.out.2, hown6, Ends.first⟩
  clear hown hown6 hg6 HA5 HZ5 hmk hri0
  generalize w4.heap.size = mb at *
  go_loopw [34] (fun kv wr => ∃ i : Nat, i ≤ n ∧ kv = .int .i64 i ∧ Hid (∃ c D, Al Lg w3 c p 100 (l.take i) [] wr ∧ c mb = 0 ∧ w3.heap.size ≤ mb ∧ wr.ownsMap Try.prog 3 tk mb (i + 1) D ∧ Ends D (l.take i))) (fun kv _ => n - (intOf kv).toNat)
  case atStart => exact ⟨0, Nat.zero_le _, rfl, HST⟩
  case round =>
    obtain ⟨i, hi, rfl, hh⟩ := hrel
    obtain ⟨c, D, hA, hcm, hmb, hown, hE⟩ := hh.out
    clear HST
    have hLi : (l.take i).length = i := by rw [List.length_take]; omega
    have hG : Goods (l.take i) := HGL.out.take i
    by_cases hin : i < n
    · have hi1 : (i : Int) < (n : Int) := by omega
      obtain ⟨bb, ob, x, hx, rfl, hbb, g0, g1, g2, g3, g4⟩ := (HK3.out.below hA.2.1).ev_ hin
      have hgx := HGL.out x (List.mem_of_getElem? hx)
      have hnx : l.take (i + 1) = l.take i ++ [x] := by rw [List.take_add_one, hx]; rfl
      have hG2 : Goods (l.take (i + 1)) := HGL.out.take (i + 1)
      obtain ⟨xp, xo, xh, xa, xe⟩ := x
      simp only at g0 g1 g2 g3 g4
      have hb4 : Below wr.heap.size wr (wr.alloc (.cells #[.int .i64 xp, .int .i64 xo, .int .u64 xh, .int .u64 xa, .int .i64 xe] 27)) := (Below.refl _ _).alloc (Nat.le_refl _) _
      obtain ⟨k4, hA4, hold4, hnew4⟩ := Al.go C hA hb4
      have hx4 := EvB.new (w := wr) (p := xp) (o := xo) (h := xh) (a := xa) (e := xe)
      obtain ⟨q0, q1, q2, q3, q4⟩ := hx4.cells
      have HM4 := Lib.hid (ownsMap_keep hown (hb4.block mb hown.lt))
      have HC4 : Hid (k4 mb = 0 ∧ w3.heap.size ≤ mb) := Lib.hid ⟨(hold4 mb hown.lt).trans hcm, hmb⟩
      have HE := Lib.hid (Ends.step (x := ⟨xp, xo, xh, xa, xe⟩) hown.isMap hE)
      have hap : apE 100 (l.take i) ⟨xp, xo, xh, xa, xe⟩ = 0 := apE_ok hgx.1 (by have := rcN_le (l.take i) xp; simp only; omega)
      have HAP := Lib.hid (Al.append C ⟨xp, xo, xh, xa, xe⟩ hA4 (by omega) hgx.2)
      rw [hap, apL_ok hap, ← hnx] at HAP
      rw [← hnx, hLi] at HE
      have HG2 := Lib.hid hG2
      have HL2 : Hid ((l.take (i + 1)).length = i + 1) := Lib.hid (by rw [List.length_take]; omega)
      have HLB := Lib.hid (lgB_len (d := start) hG2).1
      clear hh hA hcm hown hE hG hLi hx hbb hgx hnx hG2 hb4 hA4 hold4 hnew4 hx4 hap
      go_wp2_with fail
      generalize wr.alloc (.cells #[.int .i64 xp, .int .i64 xo, .int .u64 xh, .int .u64 xa, .int .i64 xe] 27) = w4 at *
      refine HAP.out.mono ?_
      rintro e w5 ⟨rfl, k5, hA5, hk5, hold5⟩
      have HM5 := Lib.hid (ownsMap_keep HM4.out (hk5.block mb HM4.out.lt (by rw [HC4.out.1]; omega)))
      have HC5 : Hid (k5 mb = 0 ∧ w3.heap.size ≤ mb) := Lib.hid ⟨(hold5 mb HM4.out.lt).trans HC4.out.1, hmb⟩
      have HBY := Lib.hid (C.bytes hA5.2.2 (by have := HL2.out; omega) HG2.out)
      have HA5 := Lib.hid hA5
      unfold Made at HBY
      clear hA5 hk5 hold5 HAP HM4 HC4 q0 q1 q2 q3 q4 g0 g1 g2 g3 g4
      go_wp2_with fail
      refine HBY.out.mono ?_
      rintro e w6 ⟨v6, rfl, ho6, hb6⟩
      obtain ⟨A6, n6, c6, rfl, hr6⟩ := ho6.shape
      have hn6 : (lgB start (l.take (i + 1))).length = n6 := hr6.len
      have hn60 : n6 ≤ 1000 := by have := HLB.out; have := HL2.out; omega
      have HE6 := Lib.hid (HE.out n6 hn6)
      obtain ⟨k6, hA6, hold6, hnew6⟩ := Al.go C HA5.out hb6
      have HA6 := Lib.hid hA6
      have hown6 := ownsMap_keep HM5.out (hb6.block mb HM5.out.lt)
      have HC6 : Hid (k6 mb = 0 ∧ w3.heap.size ≤ mb) := Lib.hid ⟨(hold6 mb HM5.out.lt).trans HC5.out.1, hmb⟩
      have hri : Ri (n6 : Int) := Ri.of (by omega)
      have HRI := Lib.hid hri
      clear ho6 hr6 hn6 hb6 hA6 hold6 hnew6 hri HE HBY HM5 HC5 HA5 HLB HL2 HG2
      go_wp2_with (first | (at_mapUpdate; refine wpList_mapUpdate_own _ rfl _ _ _ 48 rfl 3 3 law3 Try.underlying48 tk mb (i + 1) _ rfl hown6 (by unfold maxLen; omega) _ _ _ rfl rfl (key3 HRI.out) (.held (.int .i64 ((i : Int) + 1))) [] rfl ?_; intro w8 hown8 hg8) | go_in)
      have HF : Hid (∃ c D, Al Lg w3 c p 100 (l.take (i + 1)) [] w8 ∧ c mb = 0 ∧ w3.heap.size ≤ mb ∧ w8.ownsMap Try.prog 3 tk mb (i + 1 + 1) D ∧ Ends D (l.take (i + 1))) := Lib.hid
        ⟨k6, _, Al.own C HA6.out hg8 (fun g e => by cases e; exact HC6.out) (fun _ _ => rfl), HC6.out.1, HC6.out.2, hown8, HE6.out⟩
      clear hown6 hown8 hg8 HA6 HC6 HE6 HRI
      go_wp2
      go_roundw
      case rel => exact ⟨i + 1, by omega, by go_num, HF⟩
      case measure => simp [intOf]; omega
    · obtain rfl : i = n := by omega
      have hd : ¬ (i : Int) < (i : Int) := by omega
      have htk : l.take i = l := List.take_of_length_le (by omega)
      rw [htk] at hA hE hG
      have HBY := Lib.hid (C.bytes hA.2.2 (by omega) hG)
      have HBW : Hid (Below w.heap.size w wr) := Lib.hid (HB3.out.trans (hA.2.1.mono HB3.out.size))
      have HKW := Lib.hid (HK3.out.below hA.2.1)
      have HM := Lib.hid hown
      have HE := Lib.hid hE
      have HGX := Lib.hid hG
      have HLB := Lib.hid (lgB_len (d := start) hG).1
      have HSB : Hid (Small (lgB start l)) := Lib.hid lgB_small
      have HW3 : Hid (w3.heap.size ≤ wr.heap.size) := Lib.hid hA.2.1.size
      unfold Made at HBY
      clear hh hA hcm hmb hown hE hG hLi htk HK3 HGL
      go_wp2_with fail
      refine HBY.out.mono ?_
      rintro e w6 ⟨v6, rfl, ho6, hb6⟩
      obtain ⟨A6, n6, c6, rfl, hr6⟩ := ho6.shape
      have hn6 : (lgB start l).length = n6 := hr6.len
      have hn60 : n6 ≤ 1000 := by have := HLB.out; omega
      have hcap6 := hr6.cap
      have hsm6 := hr6.small
      unfold maxLen at hsm6
      have e5 : IntKind.i64.wrap ((n6 : Int) + 1) = (n6 : Int) + 1 := IntWalk.i64_in _ (by omega)
      have hk0 : 0 ≤ a2 % ((n6 : Int) + 1) := Int.emod_nonneg _ (by omega)
      have hk1 : a2 % ((n6 : Int) + 1) < (n6 : Int) + 1 := Int.emod_lt_of_pos _ (by omega)
      have hrem : a2.tmod ((n6 : Int) + 1) = a2 % ((n6 : Int) + 1) := Int.tmod_eq_emod_of_nonneg (by omega)
      have hz : ¬ (n6 : Int) + 1 = 0 := by omega
      obtain ⟨kk, hkk⟩ := Int.eq_ofNat_of_zero_le hk0
      rw [hkk] at hrem hk1
      have hkn : kk ≤ n6 := by omega
      obtain ⟨A7, hsl, hcut⟩ := cut_hi A6 n6 c6 kk (lgB start l) hkn hcap6
      have hr7 := hcut _ _ hr6
      have hslw := hsl w6
      have HDC := Lib.hid (C.decode A7 kk c6 _ w6 hr7 (HSB.out.take _) (by omega))
      unfold DlE at HDC
      have HB6 := Lib.hid (Below.then HBW.out hb6 (Nat.le_refl _))
      have hown6 := ownsMap_keep HM.out (hb6.block mb HM.out.lt)
      have HM6 := Lib.hid hown6
      have HKW6 := Lib.hid (HKW.out.below (hb6.mono HW3.out))
      have HW36 : Hid (w3.heap.size ≤ w6.heap.size) := Lib.hid (Nat.le_trans HW3.out hb6.size)
      have HN6 := Lib.hid hn6
      clear ho6 hr6 hb6 hr7 hcut hsl hk0 hkk hown6 HBY HM HKW HBW hn6
      rcases HE.out (kk : Int) (Ri.of (o := (kk : Int)) (by omega)) with ⟨m, hm1, hm2, hm3, hm4⟩ | ⟨hm1, hm2⟩
      · have hkm : kk = (lgB start (l.take m)).length := by omega
        have hbt : (lgB start l).take kk = lgB start (l.take m) := by rw [hkm]; exact lgB_take m
        obtain ⟨hb1, hb2⟩ := lg_back (HGX.out.take m)
        rw [hbt, hb1, hb2] at HDC
        have HLK : Hid (∀ W, Below w6.heap.size w6 W → (Instr.lookup 48 (.map (some mb)) (.int .i64 (kk : Int)) true).run Try.prog W = .ok (.tuple #[.int .i64 (m : Int), .bool true]) W) := Lib.hid (fun W hW => by
          have ho := ownsMap_keep HM6.out (hW.block mb HM6.out.lt)
          obtain ⟨v, ps, hrun, hv⟩ := ho.look_ok law3 Try.underlying48 (zeroI W) (zd := .held (.int .i64 0)) (zp := []) rfl (key3 (o := (kk : Int)) (Ri.of (by omega)))
          rw [hm4] at hv
          unfold tk at hv
          have e : v = .int .i64 (m : Int) := by
            injection hv with hv
            injection hv with h4 _
            injection h4
          subst e
          rw [hm3] at hrun
          exact hrun)
        have hmn : m ≤ i := by omega
        obtain ⟨A8, hsl8, hcut8⟩ := evs_hi A i cp m l hmn hcapn
        have HC8 := Lib.hid hcut8
        have HSL8 := Lib.hid hsl8
        clear hm1 hm2 hm3 hm4 hkm hbt hb1 hb2 hcut8 hsl8 HE HM6 HLB HSB HGX HN6
        go_wp2_with fail
        refine HDC.out.mono ?_
        rintro e w7 ⟨v7, rfl, ho7, hb7⟩
        obtain ⟨A9, n9, c9, rfl, hk9⟩ := ho7.shape
        have hlk := HLK.out w7 hb7
        have HB7 := Lib.hid (Below.then HB6.out hb7 (Nat.le_refl _))
        have HK9 := Lib.hid hk9
        have HB67 := Lib.hid hb7
        clear ho7 hk9 hb7 HDC HLK hslw
        go_wp2_with fail
        refine (aw17_any C w7).mono ?_
        rintro e w8 ⟨rfl, hb8⟩
        have HB8 := Lib.hid (Below.then HB7.out hb8 (Nat.le_refl _))
        have hsl9 := HSL8.out w8
        have HSM := Lib.hid (sameEv_any A9 n9 c9 A8 m cp (l.take m) w8 (HK9.out.go hb8) ((HC8.out w8 _ (HKW6.out.below ((Below.then HB67.out hb8 (Nat.le_refl _)).mono HW36.out))).more (Nat.le_trans HW36.out (Below.then HB67.out hb8 (Nat.le_refl _)).size)))
        clear hb8 HK9 HC8 HKW6 HB67 HW36 HB7 HSL8 hlk
        go_wp2_with fail
        refine HSM.out.mono ?_
        rintro e w9 ⟨rfl, hb9⟩
        have HB9 := Lib.hid (Below.then HB8.out hb9 (Nat.le_refl _))
        clear hb9 HSM HB8 hsl9
        go_wp2
        go_ret
        exact ⟨rfl, HB9.out⟩
      · have hn6' := HN6.out
        have hcu := dg_cut (l := l) (f := ((lgB start l).take kk).length) (d := start) (k := kk) HGX.out (by omega) (by rw [List.length_take]; omega) (fun m hm e => hm1 m hm (by omega))
        have hE2 : lgE ((lgB start l).take kk) = 2 := hcu
        have hL2 : lgL ((lgB start l).take kk) = [] := if_neg (by rw [hE2]; omega)
        rw [hE2, hL2] at HDC
        have HLK : Hid (∀ W, Below w6.heap.size w6 W → (Instr.lookup 48 (.map (some mb)) (.int .i64 (kk : Int)) true).run Try.prog W = .ok (.tuple #[.int .i64 0, .bool false]) W) := Lib.hid (fun W hW => by
          have ho := ownsMap_keep HM6.out (hW.block mb HM6.out.lt)
          obtain ⟨v, ps, hrun, hv⟩ := ho.look_ok law3 Try.underlying48 (zeroI W) (zd := .held (.int .i64 0)) (zp := []) rfl (key3 (o := (kk : Int)) (Ri.of (by omega)))
          rw [atKey_of_not_has hm2] at hv
          unfold tk at hv
          have e : v = .int .i64 0 := by
            injection hv with hv
            injection hv with h4 _
            injection h4
          subst e
          rw [hm2] at hrun
          exact hrun)
        clear hn6' hm1 hm2 hcu hE2 hL2 HE HM6 HLB HSB HGX HN6 HKW6 HW36
        go_wp2_with fail
        refine HDC.out.mono ?_
        rintro e w7 ⟨v7, rfl, ho7, hb7⟩
        obtain ⟨A9, n9, c9, rfl, hk9⟩ := ho7.shape
        obtain rfl : n9 = 0 := by have := hk9.len; simpa using this.symm
        have hlk := HLK.out w7 hb7
        have HB7 := Lib.hid (Below.then HB6.out hb7 (Nat.le_refl _))
        clear ho7 hk9 hb7 HDC HLK hslw
        go_wp2_with fail
        refine (aw17_any C w7).mono ?_
        rintro e w8 ⟨rfl, hb8⟩
        have HB8 := Lib.hid (Below.then HB7.out hb8 (Nat.le_refl _))
        clear hb8 HB7 hlk
        go_wp2
        go_ret
        exact ⟨rfl, HB8.out⟩
end
end Go.Proofs.Ytlgoiccekgjhnaa
