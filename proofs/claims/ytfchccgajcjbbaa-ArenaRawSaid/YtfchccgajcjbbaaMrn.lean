/-
  The reference's model of an arena in memory, and contracts of its within, number, Little and Load. Conditions: at most nine hundred allocated extents.
-/
import Derived.Test.YtfchccgajcjbbaaArnF
import Derived.Test.YtfchccgajcjbbaaNdlA
namespace Go.Proofs.Ytfchccgajcjbbaa
open Go.ChangeShapes Go.WideShapes Go.ChangeAt Go.RowKit
set_option maxHeartbeats 8000000
set_option maxRecDepth 100000

/-- The block q is a model of an arena: its allocated extents U, its bytes bs in block g. -/
structure Mrn (w : World) (c : Nat → Nat) (q g : Nat) (U : List (Int × Int)) (bs : List Int) : Prop where
  mo : Mdl w c 2 q bs.length U [.slice (some ⟨g, 0, none⟩) bs.length bs.length] 79
  byt : Byt w g bs
  cg : c g = 5
  fit : Fit .u8 bs
  small : bs.length ≤ 1048576
section
variable {c c' : Nat → Nat} {q g j : Nat} {w w' : World} {U : List (Int × Int)} {bs : List Int}
theorem Mrn.lt (h : Mrn w c q g U bs) : q < w.heap.size := h.mo.lt
theorem Mrn.cell2 (h : Mrn w c q g U bs) : w.cell? ⟨q, 2, none⟩ = some (.slice (some ⟨g, 0, none⟩) bs.length bs.length) := by
  obtain ⟨vu, h1, _⟩ := h.mo.ex
  exact cell_of_row w q 2 _ _ _ h1
theorem Mrn.kept (h : Mrn w c q g U bs) (hk : Kept c j w w') (h1 : j ≠ 2) (h4 : j ≠ 5) (hc : ∀ x, x < w.heap.size → c' x = c x) : Mrn w' c' q g U bs :=
  ⟨h.mo.kept hk h1 hc, h.byt.kept hk (by rw [h.cg]; omega), (hc g h.byt.lt).trans h.cg, h.fit, h.small⟩
theorem Mrn.go (h : Mrn w c q g U bs) (hb : Below w.heap.size w w') : Mrn w' c q g U bs := h.kept (j := 7) (Kept.ofBelow hb) (by omega) (by omega) (fun _ _ => rfl)
theorem Mrn.recol (h : Mrn w c q g U bs) (hc : ∀ x, x < w.heap.size → c' x = c x) : Mrn w c' q g U bs := h.kept (j := 7) Kept.refl (by omega) (by omega) hc
theorem Mrn.ks (h : Mrn w c q g U bs) (hk : KS Sp c w w') (hc : ∀ x, x < w.heap.size → c' x = c x) : Mrn w' c' q g U bs := by
  have hlt := h.lt
  obtain ⟨vu, h1, h2, h4, h5⟩ := h.mo.ex
  have hk' : Kept (fun g => if Sm (c g) then 1 else 2) 2 w w' := ⟨hk.os, hk.tape, hk.output, hk.size, fun x hx hne => hk.block x hx (fun hs => by
    refine hne (if_neg fun hm => ?_)
    rcases hs with h | h <;> rcases hm with h' | h' <;> omega)⟩
  have hn : ∀ x, c x = 2 → (fun g => if Sm (c g) then 1 else 2) x ≠ 2 := fun x hx => by
    show (if Sm (c x) then 1 else 2) ≠ 2
    rw [if_pos (.inl hx)]
    omega
  exact ⟨⟨vu, (hk'.block q hlt (hn q h4)).trans h1, h2.keptC hk' (fun x hx => hn x (h5 x hx).1), (hc q hlt).trans h4, fun x hx => ⟨(hc x (h2.blk_lt hx)).trans (h5 x hx).1, (h5 x hx).2⟩⟩, h.byt.ks hk (by rw [h.cg]; exact sp_not (by omega) (by omega)), (hc g h.byt.lt).trans h.cg, h.fit, h.small⟩
/-- Its bytes have been written. -/
theorem Mrn.wrote {bs' : List Int} (h : Mrn w c q g U bs) (hk : Kept c 5 w w') (hb : Byt w' g bs') (hl : bs'.length = bs.length) (hf : Fit .u8 bs') : Mrn w' c q g U bs' :=
  ⟨by rw [hl]; exact h.mo.kept hk (by omega) (fun _ _ => rfl), hb, h.cg, hf, by rw [hl]; exact h.small⟩
/-- Its list of extents has been written. -/
theorem Mrn.alcd {U' : List (Int × Int)} (h : Mrn w c q g U bs) (hk : Kept c 2 w w') (hc : ∀ x, x < w.heap.size → c' x = c x) (hm : Mdl w' c' 2 q bs.length U' [.slice (some ⟨g, 0, none⟩) bs.length bs.length] 79) : Mrn w' c' q g U' bs :=
  ⟨hm, h.byt.kept hk (by rw [h.cg]; omega), (hc g h.byt.lt).trans h.cg, h.fit, h.small⟩
end

theorem withinR_any (off n y : Int) (w : World) (hy : 0 ≤ y ∧ y ≤ 1048576) (hn : 0 ≤ n ∧ n ≤ 9223372036854775807) :
    Calls Try.prog 45 #[.int .i64 off, .int .i64 n, .int .i64 y] w (Tell w (wi off n y)) := by
  obtain ⟨y0, y1⟩ := hy
  obtain ⟨n0, n1⟩ := hn
  by_cases h0 : 0 ≤ off
  · have d0 : decide (0 ≤ off) = true := decide_eq_true h0
    by_cases h1 : off ≤ y
    · have d1 : decide (off ≤ y) = true := decide_eq_true h1
      obtain ⟨b, hb⟩ : ∃ b, decide (n ≤ y - off) = b := ⟨_, rfl⟩
      have HW : Hid (wi off n y = b) := Lib.hid (by
        rw [← hb]
        unfold wi
        rw [d0, Bool.true_and]
        exact decide_eq_decide.2 ⟨fun h => by omega, fun h => by omega⟩)
      go_enter Try.func45, Try.ntmps45
      go_wp2
      go_ret
      exact ⟨by rw [HW.out]; rfl, Below.refl _ _⟩
    · have d1 : decide (off ≤ y) = false := decide_eq_false h1
      have HW : Hid (wi off n y = false) := Lib.hid (by simp [wi]; omega)
      go_enter Try.func45, Try.ntmps45
      go_wp2
      go_ret
      exact ⟨by rw [HW.out]; rfl, Below.refl _ _⟩
  · have d0 : decide (0 ≤ off) = false := decide_eq_false h0
    have HW : Hid (wi off n y = false) := Lib.hid (by simp [wi, h0])
    go_enter Try.func45, Try.ntmps45
    go_wp2
    go_ret
    exact ⟨by rw [HW.out]; rfl, Below.refl _ _⟩

/-- The extents of a list lie within the bytes. -/
def Ins (n : Nat) (U : List (Int × Int)) : Prop := ∀ x y, (x, y) ∈ U → 0 ≤ x ∧ 0 < y ∧ x + y ≤ n ∧ y ≤ 1048576
theorem ins_of {n : Nat} {F A U : List (Int × Int)} (hv : Gd n F A) (hp : A.Perm U) : Ins n U := fun _ _ hm => in_bd hv (hp.mem_iff.2 hm)

theorem numberR_any (c : Nat → Nat) (q g : Nat) (U : List (Int × Int)) (bs : List Int) (x y off n : Int) (w : World) (h : Mrn w c q g U bs) (hi : Ins bs.length U) (hU : U.length ≤ 900) :
    Calls Try.prog 38 #[.pointer (some ⟨q, 0, none⟩), .agg #[.int .i64 x, .int .i64 y], .int .i64 off, .int .i64 n] w (NumE w (numC U x y off n)) := by
  have hb0 : Below w.heap.size w (w.alloc (.cells #[.int .i64 x, .int .i64 y] 31)) := (Below.refl _ _).alloc (Nat.le_refl _) _
  have HBX := Lib.hid (Box.new (w := w) (x := x) (y := y))
  have HB0 := Lib.hid hb0
  have HR := Lib.hid (h.go hb0)
  have HIN := Lib.hid (fun hm => hi x y hm)
  have hqlt := h.lt
  clear h hb0 hi
  go_enter Try.func38, Try.ntmps38
  go_wp2
  generalize w.alloc (.cells #[.int .i64 x, .int .i64 y] 31) = w1 at *
  have a1 : ∀ m : Later w1, m.val.cell? ⟨w.heap.size, 0, none⟩ = some (.int .i64 x) := fun m => later_old m HBX.out.cell0
  have a2 : ∀ m : Later w1, m.val.cell? ⟨w.heap.size, 1, none⟩ = some (.int .i64 y) := fun m => later_old m HBX.out.cell1
  have H2 := Lib.hid (fun m : Later w1 => hasR_any c 2 q _ x y U m.val (HR.out.go m.2).mo (by omega))
  generalize hd : decide ((x, y) ∈ U) = d at *
  have HD := Lib.hid hd
  clear hd
  refine wp_region_later (by kernel_rfl) (by kernel_rfl) ?_
  repeat (go_big_quiet_step (first | (go_at_call 44; exact Calls.later (H2.out _))))
  refine wpQuiet_nil ?_
  rintro w4 ⟨⟨_, hq⟩, rfl⟩
  have HB4 := Lib.hid (Below.then HB0.out hq (Nat.le_refl _))
  have HE4 := Lib.hid (HBX.out.go hq)
  have g0 := HE4.out.cell0
  have g1 := HE4.out.cell1
  clear hq H2 HB0 HBX HR a1 a2
  cases d with
  | false =>
    have HN := Lib.hid (numC_6 (off := off) (n := n) (of_decide_eq_false HD.out))
    go_wp2
    go_ret
    exact ⟨by rw [HN.out]; rfl, HB4.out⟩
  | true =>
    have HM := Lib.hid (of_decide_eq_true HD.out)
    obtain ⟨x0, y0, xy, y1⟩ := HIN.out HM.out
    by_cases hw : n = 1 ∨ n = 2 ∨ n = 4 ∨ n = 8
    · have HW := Lib.hid (fun W => withinR_any off n y W ⟨by omega, y1⟩ (by omega))
      have HN := Lib.hid (numC_w (off := off) HM.out hw)
      generalize wi off n y = b at *
      rcases hw with rfl | rfl | rfl | rfl
      all_goals
        cases b with
        | false =>
          go_wp2_with fail
          refine (HW.out _).mono ?_
          rintro e w5 ⟨rfl, hb⟩
          have HB5 := Lib.hid (Below.then HB4.out hb (Nat.le_refl _))
          clear hb HW
          go_wp2
          go_ret
          exact ⟨by rw [HN.out]; rfl, HB5.out⟩
        | true =>
          go_wp2_with fail
          refine (HW.out _).mono ?_
          rintro e w5 ⟨rfl, hb⟩
          have HB5 := Lib.hid (Below.then HB4.out hb (Nat.le_refl _))
          clear hb HW
          go_wp2
          go_ret
          exact ⟨by rw [HN.out]; rfl, HB5.out⟩
    · have HN := Lib.hid (numC_1 (off := off) HM.out hw)
      have d1 : (n != 1) = true := by rw [bne_iff_ne]; omega
      have d2 : (n != 2) = true := by rw [bne_iff_ne]; omega
      have d3 : (n != 4) = true := by rw [bne_iff_ne]; omega
      have d4 : (n != 8) = true := by rw [bne_iff_ne]; omega
      clear hw
      go_wp2
      go_ret
      exact ⟨by rw [HN.out]; rfl, HB4.out⟩

theorem little_any (A : Option Addr) (n c : Nat) (l : List Int) (w : World) (h : Row w w.heap.size A n c (iv .u8 l)) (hf : Fit .u8 l) (hn : n ≤ 8) :
    Calls Try.prog 39 #[.slice A n c] w fun e w' => e = .returned (.int .u64 (le l)) ∧ Below w.heap.size w w' := by
  have HX := Lib.hid h
  have HF := Lib.hid hf
  have hcap := h.cap
  have hmax := h.small
  unfold maxLen at hmax
  have hll : l.length = n := by have := h.len; rwa [iv_len] at this
  have HLL := Lib.hid hll
  clear h hf hll
  go_enter Try.func39, Try.ntmps39
  go_wp2
  go_loop [3, 4] (fun s iv => ∃ (k : Nat) (z : Int), k ≤ n ∧ iv = .int .i64 ((k : Int) - 1) ∧ s = .int .u64 z ∧ Hid (z = le (l.drop k))) (fun _ iv => (intOf iv + 1).toNat)
  case atStart => exact ⟨n, 0, by omega, by go_num, rfl, Lib.hid (by rw [List.drop_of_length_le (by rw [HLL.out]; omega)]; rfl)⟩
  case round =>
    obtain ⟨k, z, hk, rfl, rfl, hh⟩ := hrel
    by_cases h0 : k = 0
    · subst h0
      have HZ : Hid (z = le l) := Lib.hid (by simpa using hh.out)
      clear hh
      go_wp2
      go_ret
      exact ⟨by rw [← HZ.out]; rfl, Below.refl _ _⟩
    · obtain ⟨j, rfl⟩ : ∃ j, k = j + 1 := ⟨k - 1, by omega⟩
      have hj : j < n := by omega
      have e1 : ((j + 1 : Nat) : Int) - 1 = (j : Int) := by omega
      have hj0 : ¬ (j : Int) < 0 := by omega
      have hj1 : (j : Int) < (n : Int) := by omega
      have hj2 : (0 : Int) ≤ (j : Int) := by omega
      obtain ⟨b, o', rfl, hbw, hc⟩ := HX.out.int hj
      have hbd := byte_bd (HF.out.at_ (by decide) j)
      have hz := le_bd (HF.out.drop (j + 1))
      rw [← hh.out, List.length_drop, HLL.out] at hz
      have hz2 : z < 72057594037927936 := by
        have h1 : (256 : Int) ^ (n - (j + 1)) ≤ 256 ^ 7 := pow256_le (by omega)
        have e7 : (256 : Int) ^ 7 = 72057594037927936 := by decide
        omega
      have HST : Hid (bits .or .u64 (z * 256) (l.getD j 0) = le (l.drop j)) := Lib.hid (by
        have hwr : IntKind.u64.wrap (z * 256) = z * 256 := by rw [IntKind.wrap_u64, Int.emod_eq_of_lt (by omega) (by omega)]
        rw [← hwr, or_low _ _ hz.1 hz2 hbd.1 hbd.2, hh.out, ← le_drop (by rw [HLL.out]; omega)])
      obtain ⟨b0, b1⟩ := hbd
      have z0 := hz.1
      generalize l.getD j 0 = u at *
      clear hh hz
      rw [e1]
      go_wp2
      go_round
      case rel => exact ⟨j, _, by omega, by go_num, rfl, Lib.hid HST.out⟩
      case measure => simp [intOf]

/-- A slice of the model's bytes. -/
theorem slice_is {L : Nat} (g : Nat) (lo hi : Int) (h0 : 0 ≤ lo) (h1 : lo ≤ hi) (h2 : hi ≤ L) (wx : World) :
    (Instr.slice 40 (.slice (some ⟨g, 0, none⟩) L L) (some (.int .i64 lo)) (some (.int .i64 hi)) none).run Try.prog wx = .ok (.slice (some ⟨g, vq L lo.toNat, none⟩) (hi.toNat - lo.toNat) (L - lo.toNat)) wx := by
  rw [run_slice_lh (P := Try.prog) wx 40 _ L L Try.underlying40 .i64 .i64 lo hi (by omega) (by omega) (by omega)]
  unfold vq
  by_cases hc : L = lo.toNat
  · simp [sliced, go_sem, ← hc]
  · simp [sliced, go_sem, hc]
theorem loadR_no (c : Nat → Nat) (q g : Nat) (U : List (Int × Int)) (bs : List Int) (x y off n r : Int) (w : World) (h : Mrn w c q g U bs) (hi : Ins bs.length U) (hU : U.length ≤ 900) (hr : numC U x y off n = r) (hr0 : r ≠ 0) :
    Calls Try.prog 15 #[.pointer (some ⟨q, 0, none⟩), .agg #[.int .i64 x, .int .i64 y], .int .i64 off, .int .i64 n] w (LdE w 0 r) := by
  have hb0 : Below w.heap.size w (w.alloc (.cells #[.int .i64 x, .int .i64 y] 31)) := (Below.refl _ _).alloc (Nat.le_refl _) _
  have HB0 := Lib.hid hb0
  have H1 := Lib.hid (numberR_any c q g U bs x y off n _ (h.go hb0) hi hU)
  rw [hr] at H1
  have hr1 : (r != 0) = true := by rw [bne_iff_ne]; exact hr0
  clear h hb0 hi hr
  go_enter Try.func15, Try.ntmps15
  go_wp2_with fail
  refine H1.out.mono ?_
  rintro e w1 ⟨rfl, hb⟩
  have HB1 := Lib.hid (Below.then HB0.out hb (Nat.le_refl _))
  clear hb H1 HB0
  go_wp2
  go_ret2
  exact ⟨rfl, HB1.out⟩
theorem loadR_yes (c : Nat → Nat) (q g : Nat) (U : List (Int × Int)) (bs : List Int) (x y off n : Int) (w : World) (h : Mrn w c q g U bs) (hi : Ins bs.length U) (hU : U.length ≤ 900) (hr : numC U x y off n = 0) :
    Calls Try.prog 15 #[.pointer (some ⟨q, 0, none⟩), .agg #[.int .i64 x, .int .i64 y], .int .i64 off, .int .i64 n] w (LdE w (ldV bs (x + off).toNat n.toNat) 0) := by
  obtain ⟨hm, hn, hw⟩ := numC_0 hr
  obtain ⟨o0, o1⟩ := wi_is hw
  obtain ⟨x0, _, x1, y1⟩ := hi _ _ hm
  have n1 : 1 ≤ n ∧ n ≤ 8 := by omega
  have hb0 : Below w.heap.size w (w.alloc (.cells #[.int .i64 x, .int .i64 y] 31)) := (Below.refl _ _).alloc (Nat.le_refl _) _
  have HB0 := Lib.hid hb0
  have HE0 := Lib.hid (Box.new (w := w) (x := x) (y := y))
  have HR := Lib.hid (h.go hb0)
  have H1 := Lib.hid (numberR_any c q g U bs x y off n _ (h.go hb0) hi hU)
  rw [hr] at H1
  have hsm := h.small
  have HF := Lib.hid h.fit
  have hsl := slice_is (L := bs.length) g (x + off) (x + off + n) (by omega) (by omega) (by omega)
  have hqlt := h.lt
  clear h hb0 hi hr hm hn hw
  go_enter Try.func15, Try.ntmps15
  go_wp2_with fail
  generalize w.alloc (.cells #[.int .i64 x, .int .i64 y] 31) = w1 at *
  refine H1.out.mono ?_
  rintro e w2 ⟨rfl, hb⟩
  have HB2 := Lib.hid (Below.then HB0.out hb (Nat.le_refl _))
  have HE2 := Lib.hid (HE0.out.go hb)
  have HR2 := Lib.hid (HR.out.go hb)
  clear hb H1 HB0 HE0 HR
  have a1 : ∀ m : Later w2, m.val.cell? ⟨w.heap.size, 0, none⟩ = some (.int .i64 x) := fun m => later_old m HE2.out.cell0
  have a2 : ∀ m : Later w2, m.val.cell? ⟨w.heap.size, 1, none⟩ = some (.int .i64 y) := fun m => later_old m HE2.out.cell1
  have a3 : ∀ m : Later w2, m.val.cell? ⟨q, 2, none⟩ = some (.slice (some ⟨g, 0, none⟩) bs.length bs.length) := fun m => later_old m HR2.out.cell2
  have HL : Hid (∀ m : Later w2, Calls Try.prog 39 #[.slice (some ⟨g, vq bs.length (x + off).toNat, none⟩) ((x + off + n).toNat - (x + off).toNat) (bs.length - (x + off).toNat)] m.val fun e w' => e = .returned (.int .u64 (ldV bs (x + off).toNat n.toNat)) ∧ Below m.val.heap.size m.val w') :=
    Lib.hid fun m => by
      have e1 : (x + off + n).toNat - (x + off).toNat = n.toNat := by omega
      rw [e1]
      exact little_any _ _ _ _ m.val ((HR2.out.go m.2).byt.sub hsm (by omega) (fun hm => vq_is (m := n.toNat) (by omega) hm)) (fit_sub HF.out _ _) (by omega)
  generalize ldV bs (x + off).toNat n.toNat = z at *
  generalize vq bs.length (x + off).toNat = q1 at *
  generalize (x + off + n).toNat - (x + off).toNat = N at *
  generalize bs.length - (x + off).toNat = cp at *
  go_wp2
  refine wp_region_later (by kernel_rfl) (by kernel_rfl) ?_
  repeat (go_big_quiet_step (first | (go_at_call 39; exact Calls.later (HL.out _))))
  refine wpQuiet_nil ?_
  rintro w4 ⟨⟨_, hq⟩, rfl⟩
  have HB4 := Lib.hid (Below.then HB2.out hq (Nat.le_refl _))
  clear hq HL HB2 HE2 HR2 a1 a2 a3
  go_wp2
  go_ret2
  exact ⟨rfl, HB4.out⟩
end Go.Proofs.Ytfchccgajcjbbaa
