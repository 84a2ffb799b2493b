/-
  Contracts of package event's Encode and of the definition's: what they return is what the plain functions of the text Evp say. Conditions: the handle and the argument are words.
-/
import Derived.Test.YtlgoiccekgjhnaaEvc
import Derived.ChangeKeysEq
namespace Go.Proofs.Ytlgoiccekgjhnaa
open Go.ChangeShapes Go.WideShapes Go.RowKit
set_option linter.unusedVariables false
set_option linter.unusedSimpArgs false
set_option maxHeartbeats 4000000
set_option maxRecDepth 100000

/-- What Encode returns. -/
def EncE (w : World) (p o h a e : Int) (x : Ending) (w' : World) : Prop :=
  ∃ v, x = .returned (.tuple #[v, .int .i64 (chkV p o e)]) ∧ OwnB w' w.heap.size v (encO p o h a e) ∧ Below w.heap.size w w'
theorem five_words {p o h a e : Int} (hc : chkV p o e = 0) (hh : 0 ≤ h ∧ h < 18446744073709551616) (ha : 0 ≤ a ∧ a < 18446744073709551616) : Wds [p, o, h, a, e] := fun x hx => by
  obtain ⟨h1, h2, h3, h4, h5⟩ := chk_ok hc
  have h6 := op_bd h3
  simp only [List.mem_cons, List.not_mem_nil, or_false] at hx
  rcases hx with rfl | rfl | rfl | rfl | rfl <;> omega
theorem OwnB.len {w : World} {base : Nat} {A : Option Addr} {n c : Nat} {l : List Int} (h : OwnB w base (.slice A n c) l) : Bts w w.heap.size A n c l := by
  obtain ⟨A', n', c', e, hb⟩ := h.shape
  cases e
  exact hb
theorem idx_any (w : World) (cs : Array Value) (v : Value) (j : Nat) (hj : j < 5) (hc : cs[j]? = some v) : (Instr.index 108 (.agg cs) (.int .i64 j)).run Try.prog w = .ok v w := by
  have h1 : (0 : Int) ≤ j ∧ (j : Int) < 5 := by omega
  have h2 : (part 23 cs j).run Try.prog w = .ok v w := run_part_plain w (by kernel_rfl) hc
  simp [Instr.index, run_underlying Try.underlying108, asIntOf, h1, Try.sizeOf23, go_sem, hj, hc]
theorem idx_all (w : World) (x0 x1 x2 x3 x4 : Value) :
    (Instr.index 108 (.agg #[x0, x1, x2, x3, x4]) (.int .i64 0)).run Try.prog w = .ok x0 w ∧
    (Instr.index 108 (.agg #[x0, x1, x2, x3, x4]) (.int .i64 1)).run Try.prog w = .ok x1 w ∧
    (Instr.index 108 (.agg #[x0, x1, x2, x3, x4]) (.int .i64 2)).run Try.prog w = .ok x2 w ∧
    (Instr.index 108 (.agg #[x0, x1, x2, x3, x4]) (.int .i64 3)).run Try.prog w = .ok x3 w ∧
    (Instr.index 108 (.agg #[x0, x1, x2, x3, x4]) (.int .i64 4)).run Try.prog w = .ok x4 w :=
  ⟨idx_any w _ x0 0 (by omega) rfl, idx_any w _ x1 1 (by omega) rfl, idx_any w _ x2 2 (by omega) rfl, idx_any w _ x3 3 (by omega) rfl, idx_any w _ x4 4 (by omega) rfl⟩
theorem encode_any (p o h a e : Int) (w : World) (hh : 0 ≤ h ∧ h < 18446744073709551616) (ha : 0 ≤ a ∧ a < 18446744073709551616) : Calls Try.prog 37 #[.agg #[.int .i64 p, .int .i64 o, .int .u64 h, .int .u64 a, .int .i64 e]] w (EncE w p o h a e) := by
  have hb0 : Below w.heap.size w (w.alloc (.cells #[.int .i64 p, .int .i64 o, .int .u64 h, .int .u64 a, .int .i64 e] 27)) := (Below.refl _ _).alloc (Nat.le_refl _) _
  have HB0 := Lib.hid hb0
  have HE0 := Lib.hid (EvB.new (w := w) (p := p) (o := o) (h := h) (a := a) (e := e))
  obtain ⟨c0, c1, c2, c3, c4⟩ := (EvB.new (w := w) (p := p) (o := o) (h := h) (a := a) (e := e)).cells
  have HCK := Lib.hid (check_any p o h a e (w.alloc (.cells #[.int .i64 p, .int .i64 o, .int .u64 h, .int .u64 a, .int .i64 e] 27)))
  have HE : Hid (encO p o h a e = if chkV p o e = 0 then encN [p, o, h, a, e] else []) := Lib.hid rfl
  have HK := Lib.hid (fun h0 => chk_ok (p := p) (o := o) (e := e) h0)
  have HW := Lib.hid (fun h0 => five_words (p := p) (o := o) (e := e) h0 hh ha)
  have HEE : Hid (∀ (W : World) (v : Value), OwnB W w.heap.size v (encO p o h a e) → Below w.heap.size w W → EncE w p o h a e (.returned (.tuple #[v, .int .i64 (chkV p o e)])) W) := Lib.hid (fun W v h1 h2 => ⟨_, rfl, h1, h2⟩)
  obtain ⟨hh0, hh1⟩ := hh
  obtain ⟨ha0, ha1⟩ := ha
  generalize hchk : chkV p o e = k at *
  generalize encO p o h a e = EO at *
  clear hb0
  go_enter Try.func37, Try.ntmps37
  go_wp2_with fail
  refine HCK.out.mono ?_
  generalize w.alloc (.cells #[.int .i64 p, .int .i64 o, .int .u64 h, .int .u64 a, .int .i64 e] 27) = w1 at *
  have hts : w.heap.size < w1.heap.size := HE0.out.lt
  generalize htb : w.heap.size = tb at *
  rintro x w2 ⟨rfl, hb2⟩
  have hx2 := HE0.out.go hb2
  have HB2 := Lib.hid (Below.then HB0.out hb2 (by omega))
  obtain ⟨d0, d1, d2, d3, d4⟩ := hx2.cells
  have htl : tb ≤ w.heap.size := by omega
  clear hb2 hx2 HE0 HB0 c0 c1 c2 c3 c4 htb
  by_cases hz : k = 0
  · subst hz
    obtain ⟨p0, p1, ho, e0, e1⟩ := HK.out rfl
    obtain ⟨o0, o1⟩ := op_bd ho
    have p0' : 0 ≤ p := by omega
    have o0' : 0 ≤ o := by omega
    have HEQ : Hid (EO = encN [p, o, h, a, e]) := Lib.hid (by rw [HE.out, if_pos rfl])
    have HWD := Lib.hid (HW.out rfl)
    have hO0 : OwnB w2 tb (.slice none 0 0) (encN ([p, o, h, a, e].take 0)) := OwnB.nil _ _
    have HO0 := Lib.hid hO0
    clear hchk HE HCK HK HW ho hO0
    go_wp2_with fail
    go_loopw [5, 27] (fun bv iv_ wq => ∃ (j : Nat), j ≤ 5 ∧ iv_ = .int .i64 j ∧ ∃ A n c, bv = .slice A n c ∧ Hid (OwnB wq tb (.slice A n c) (encN ([p, o, h, a, e].take j)) ∧ Below tb w wq)) (fun _ iv_ _ => 5 - (intOf iv_).toNat)
    case atStart => exact ⟨0, by omega, rfl, none, 0, 0, rfl, Lib.hid ⟨HO0.out, HB2.out⟩⟩
    case round =>
      obtain ⟨j, hj, rfl, A, n, c, rfl, hh⟩ := hrel
      by_cases hj5 : j < 5
      · have hN := encN_next (l := [p, o, h, a, e]) (i := j) hj5
        have hb := hh.out.1.len
        have hlen : n ≤ 1000 := by
          have h1 := hb.len
          have h3 := encN_len (l := [p, o, h, a, e].take j) (fun x hx => HWD.out x (List.mem_of_mem_take hx))
          rw [List.length_take] at h3
          omega
        have HP := Lib.hid (fun x h0 h1 => putUint_any A n c _ x wr hb (by omega) h0 h1)
        have HBQ := Lib.hid hh.out.2
        clear hb hh HO0 HB2 d0 d1 d2 d3 d4
        obtain rfl | rfl | rfl | rfl | rfl : j = 0 ∨ j = 1 ∨ j = 2 ∨ j = 3 ∨ j = 4 := by omega
        · simp only [List.getD, List.getElem?_cons_zero, List.getElem?_cons_succ, Option.getD_some] at hN
          have HN := Lib.hid hN
          have HPX := Lib.hid (HP.out p (by omega) (by omega))
          clear HP hN
          obtain ⟨i0, i1, i2, i3, i4⟩ := idx_all wr (.int .u64 p) (.int .u64 o) (.int .u64 h) (.int .u64 a) (.int .u64 e)
          go_wp2_with fail
          refine HPX.out.mono ?_
          rintro x w7 ⟨v7, rfl, ho7, hb7⟩
          obtain ⟨A7, n7, c7, rfl, _⟩ := ho7.shape
          have HF : Hid (OwnB w7 tb (.slice A7 n7 c7) (encN ([p, o, h, a, e].take (0 + 1))) ∧ Below tb w w7) := Lib.hid ⟨by rw [HN.out]; exact ho7.down (Nat.le_trans htl HBQ.out.size), Below.then HBQ.out hb7 htl⟩
          clear ho7 hb7 HPX HN HBQ i0 i1 i2 i3 i4
          go_wp2
          go_roundw
          case rel => exact ⟨0 + 1, by omega, by go_num, A7, n7, c7, rfl, HF⟩
          case measure => simp [intOf]
        · simp only [List.getD, List.getElem?_cons_zero, List.getElem?_cons_succ, Option.getD_some] at hN
          have HN := Lib.hid hN
          have HPX := Lib.hid (HP.out o (by omega) (by omega))
          clear HP hN
          obtain ⟨i0, i1, i2, i3, i4⟩ := idx_all wr (.int .u64 p) (.int .u64 o) (.int .u64 h) (.int .u64 a) (.int .u64 e)
          go_wp2_with fail
          refine HPX.out.mono ?_
          rintro x w7 ⟨v7, rfl, ho7, hb7⟩
          obtain ⟨A7, n7, c7, rfl, _⟩ := ho7.shape
          have HF : Hid (OwnB w7 tb (.slice A7 n7 c7) (encN ([p, o, h, a, e].take (1 + 1))) ∧ Below tb w w7) := Lib.hid ⟨by rw [HN.out]; exact ho7.down (Nat.le_trans htl HBQ.out.size), Below.then HBQ.out hb7 htl⟩
          clear ho7 hb7 HPX HN HBQ i0 i1 i2 i3 i4
          go_wp2
          go_roundw
          case rel => exact ⟨1 + 1, by omega, by go_num, A7, n7, c7, rfl, HF⟩
          case measure => simp [intOf]
        · simp only [List.getD, List.getElem?_cons_zero, List.getElem?_cons_succ, Option.getD_some] at hN
          have HN := Lib.hid hN
          have HPX := Lib.hid (HP.out h (by omega) (by omega))
          clear HP hN
          obtain ⟨i0, i1, i2, i3, i4⟩ := idx_all wr (.int .u64 p) (.int .u64 o) (.int .u64 h) (.int .u64 a) (.int .u64 e)
          go_wp2_with fail
          refine HPX.out.mono ?_
          rintro x w7 ⟨v7, rfl, ho7, hb7⟩
          obtain ⟨A7, n7, c7, rfl, _⟩ := ho7.shape
          have HF : Hid (OwnB w7 tb (.slice A7 n7 c7) (encN ([p, o, h, a, e].take (2 + 1))) ∧ Below tb w w7) := Lib.hid ⟨by rw [HN.out]; exact ho7.down (Nat.le_trans htl HBQ.out.size), Below.then HBQ.out hb7 htl⟩
          clear ho7 hb7 HPX HN HBQ i0 i1 i2 i3 i4
          go_wp2
          go_roundw
          case rel => exact ⟨2 + 1, by omega, by go_num, A7, n7, c7, rfl, HF⟩
          case measure => simp [intOf]
        · simp only [List.getD, List.getElem?_cons_zero, List.getElem?_cons_succ, Option.getD_some] at hN
          have HN := Lib.hid hN
          have HPX := Lib.hid (HP.out a (by omega) (by omega))
          clear HP hN
          obtain ⟨i0, i1, i2, i3, i4⟩ := idx_all wr (.int .u64 p) (.int .u64 o) (.int .u64 h) (.int .u64 a) (.int .u64 e)
          go_wp2_with fail
          refine HPX.out.mono ?_
          rintro x w7 ⟨v7, rfl, ho7, hb7⟩
          obtain ⟨A7, n7, c7, rfl, _⟩ := ho7.shape
          have HF : Hid (OwnB w7 tb (.slice A7 n7 c7) (encN ([p, o, h, a, e].take (3 + 1))) ∧ Below tb w w7) := Lib.hid ⟨by rw [HN.out]; exact ho7.down (Nat.le_trans htl HBQ.out.size), Below.then HBQ.out hb7 htl⟩
          clear ho7 hb7 HPX HN HBQ i0 i1 i2 i3 i4
          go_wp2
          go_roundw
          case rel => exact ⟨3 + 1, by omega, by go_num, A7, n7, c7, rfl, HF⟩
          case measure => simp [intOf]
        · simp only [List.getD, List.getElem?_cons_zero, List.getElem?_cons_succ, Option.getD_some] at hN
          have HN := Lib.hid hN
          have HPX := Lib.hid (HP.out e (by omega) (by omega))
          clear HP hN
          obtain ⟨i0, i1, i2, i3, i4⟩ := idx_all wr (.int .u64 p) (.int .u64 o) (.int .u64 h) (.int .u64 a) (.int .u64 e)
          go_wp2_with fail
          refine HPX.out.mono ?_
          rintro x w7 ⟨v7, rfl, ho7, hb7⟩
          obtain ⟨A7, n7, c7, rfl, _⟩ := ho7.shape
          have HF : Hid (OwnB w7 tb (.slice A7 n7 c7) (encN ([p, o, h, a, e].take (4 + 1))) ∧ Below tb w w7) := Lib.hid ⟨by rw [HN.out]; exact ho7.down (Nat.le_trans htl HBQ.out.size), Below.then HBQ.out hb7 htl⟩
          clear ho7 hb7 HPX HN HBQ i0 i1 i2 i3 i4
          go_wp2
          go_roundw
          case rel => exact ⟨4 + 1, by omega, by go_num, A7, n7, c7, rfl, HF⟩
          case measure => simp [intOf]
      · obtain rfl : j = 5 := by omega
        have HF : Hid (OwnB wr tb (.slice A n c) EO ∧ Below tb w wr) := Lib.hid ⟨by rw [HEQ.out]; exact hh.out.1, hh.out.2⟩
        clear hh HO0 HB2 d0 d1 d2 d3 d4
        go_wp2
        go_ret2
        exact HEE.out wr _ HF.out.1 HF.out.2
  · have d1 : (k != 0) = true := by simpa using hz
    have HO : Hid (EO = []) := Lib.hid (by rw [HE.out, if_neg hz])
    clear hchk
    go_wp2
    go_ret2
    exact HEE.out w2 _ (by rw [HO.out]; exact OwnB.nil _ _) HB2.out
theorem encodeR_any (p o h a e : Int) (w : World) (hh : 0 ≤ h ∧ h < 18446744073709551616) (ha : 0 ≤ a ∧ a < 18446744073709551616) : Calls Try.prog 27 #[.agg #[.int .i64 p, .int .i64 o, .int .u64 h, .int .u64 a, .int .i64 e]] w (EncE w p o h a e) := by
  have hb0 : Below w.heap.size w (w.alloc (.cells #[.int .i64 p, .int .i64 o, .int .u64 h, .int .u64 a, .int .i64 e] 27)) := (Below.refl _ _).alloc (Nat.le_refl _) _
  have HB0 := Lib.hid hb0
  have HE0 := Lib.hid (EvB.new (w := w) (p := p) (o := o) (h := h) (a := a) (e := e))
  obtain ⟨c0, c1, c2, c3, c4⟩ := (EvB.new (w := w) (p := p) (o := o) (h := h) (a := a) (e := e)).cells
  have HCK := Lib.hid (checkR_any p o h a e (w.alloc (.cells #[.int .i64 p, .int .i64 o, .int .u64 h, .int .u64 a, .int .i64 e] 27)))
  have HE : Hid (encO p o h a e = if chkV p o e = 0 then encN [p, o, h, a, e] else []) := Lib.hid rfl
  have HK := Lib.hid (fun h0 => chk_ok (p := p) (o := o) (e := e) h0)
  have HEE : Hid (∀ (W : World) (v : Value), OwnB W w.heap.size v (encO p o h a e) → Below w.heap.size w W → EncE w p o h a e (.returned (.tuple #[v, .int .i64 (chkV p o e)])) W) := Lib.hid (fun W v h1 h2 => ⟨_, rfl, h1, h2⟩)
  obtain ⟨hh0, hh1⟩ := hh
  obtain ⟨ha0, ha1⟩ := ha
  generalize hchk : chkV p o e = k at *
  generalize encO p o h a e = EO at *
  clear hb0
  go_enter Try.func27, Try.ntmps27
  go_wp2_with fail
  refine HCK.out.mono ?_
  generalize w.alloc (.cells #[.int .i64 p, .int .i64 o, .int .u64 h, .int .u64 a, .int .i64 e] 27) = w1 at *
  have hts : w.heap.size < w1.heap.size := HE0.out.lt
  generalize htb : w.heap.size = tb at *
  rintro x w2 ⟨rfl, hb2⟩
  have hx2 := HE0.out.go hb2
  have HX2 := Lib.hid hx2
  have HB2 := Lib.hid (Below.then HB0.out hb2 (by omega))
  obtain ⟨d0, d1, d2, d3, d4⟩ := hx2.cells
  have htl : tb ≤ w.heap.size := by omega
  clear hb2 hx2 HE0 HB0 c0 c1 c2 c3 c4 htb
  by_cases hz : k = 0
  · subst hz
    obtain ⟨p0, p1, ho, e0, e1⟩ := HK.out rfl
    obtain ⟨o0, o1⟩ := op_bd ho
    have p0' : 0 ≤ p := by omega
    have o0' : 0 ≤ o := by omega
    have HEQ : Hid (EO = enc p.toNat ++ (enc o.toNat ++ (enc h.toNat ++ (enc a.toNat ++ enc e.toNat)))) := Lib.hid (by rw [HE.out, if_pos rfl]; simp [encN])
    have HP := Lib.hid (putUintR_any none 0 0 [] p w2 Bts.none_ (by omega) p0' (by omega))
    have l0 := enc_len10 (n := p.toNat) (by omega)
    have l1 := enc_len10 (n := o.toNat) (by omega)
    have l2 := enc_len10 (n := h.toNat) (by omega)
    have l3 := enc_len10 (n := a.toNat) (by omega)
    clear hchk HE HCK HK ho
    go_wp2_with fail
    refine HP.out.mono ?_
    rintro x w3 ⟨v0, rfl, ho, hb⟩
    have HX3 := Lib.hid (HX2.out.go hb)
    have HB3 := Lib.hid (Below.then HB2.out hb htl)
    obtain ⟨A0, n0, c0, rfl, hbt⟩ := ho.shape
    obtain ⟨q00, q10, q20, q30, q40⟩ := HX3.out.cells
    have HP1 := Lib.hid (putUintR_any A0 n0 c0 _ o w3 hbt (by have := hbt.len; simp only [List.length_append, List.length_nil] at this; omega) (by omega) (by omega))
    clear ho hb hbt HP HX2 HB2 d0 d1 d2 d3 d4
    go_wp2_with fail
    refine HP1.out.mono ?_
    rintro x w4 ⟨v1, rfl, ho, hb⟩
    have HX4 := Lib.hid (HX3.out.go hb)
    have HB4 := Lib.hid (Below.then HB3.out hb htl)
    obtain ⟨A1, n1, c1, rfl, hbt⟩ := ho.shape
    obtain ⟨q01, q11, q21, q31, q41⟩ := HX4.out.cells
    have HP2 := Lib.hid (putUintR_any A1 n1 c1 _ h w4 hbt (by have := hbt.len; simp only [List.length_append, List.length_nil] at this; omega) (by omega) (by omega))
    clear ho hb hbt HP1 HX3 HB3 q00 q10 q20 q30 q40
    go_wp2_with fail
    refine HP2.out.mono ?_
    rintro x w5 ⟨v2, rfl, ho, hb⟩
    have HX5 := Lib.hid (HX4.out.go hb)
    have HB5 := Lib.hid (Below.then HB4.out hb htl)
    obtain ⟨A2, n2, c2, rfl, hbt⟩ := ho.shape
    obtain ⟨q02, q12, q22, q32, q42⟩ := HX5.out.cells
    have HP3 := Lib.hid (putUintR_any A2 n2 c2 _ a w5 hbt (by have := hbt.len; simp only [List.length_append, List.length_nil] at this; omega) (by omega) (by omega))
    clear ho hb hbt HP2 HX4 HB4 q01 q11 q21 q31 q41
    go_wp2_with fail
    refine HP3.out.mono ?_
    rintro x w6 ⟨v3, rfl, ho, hb⟩
    have HX6 := Lib.hid (HX5.out.go hb)
    have HB6 := Lib.hid (Below.then HB5.out hb htl)
    obtain ⟨A3, n3, c3, rfl, hbt⟩ := ho.shape
    obtain ⟨q03, q13, q23, q33, q43⟩ := HX6.out.cells
    have HP4 := Lib.hid (putUintR_any A3 n3 c3 _ e w6 hbt (by have := hbt.len; simp only [List.length_append, List.length_nil] at this; omega) (by omega) (by omega))
    clear ho hb hbt HP3 HX5 HB5 q02 q12 q22 q32 q42
    go_wp2_with fail
    refine HP4.out.mono ?_
    rintro x w7 ⟨v4, rfl, ho, hb⟩
    have HB7 := Lib.hid (Below.then HB6.out hb htl)
    have HF : Hid (OwnB w7 tb v4 EO) := Lib.hid (by
      have := ho.down (B := tb) (Nat.le_trans htl HB6.out.size)
      rw [HEQ.out]
      simpa using this)
    clear ho hb HP4
    go_wp2
    go_ret2
    exact HEE.out w7 _ HF.out HB7.out
  · have d1 : (k != 0) = true := by simpa using hz
    have HO : Hid (EO = []) := Lib.hid (by rw [HE.out, if_neg hz])
    clear hchk
    go_wp2
    go_ret2
    exact HEE.out w2 _ (by rw [HO.out]; exact OwnB.nil _ _) HB2.out
end Go.Proofs.Ytlgoiccekgjhnaa
