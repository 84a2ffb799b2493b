/-
  Package arena in memory: what it means that a block is an arena, what stays as it was beside it, contracts of its methods that change nothing, and of Store and Write. Conditions: at most nine hundred allocated extents.
-/
import Derived.Test.YtfchccgajcjbbaaOve
namespace Go.Proofs.Ytfchccgajcjbbaa
open Go.ChangeShapes Go.WideShapes Go.ChangeAt Go.RowKit
set_option maxHeartbeats 8000000
set_option maxRecDepth 100000

/-- Block g is a row of exactly the bytes bs. -/
def Byt (w : World) (g : Nat) (bs : List Int) : Prop := w.heap[g]? = some (.cells (iv .u8 bs).toArray 5 (0, 0))
section
variable {c c' : Nat → Nat} {k j g : Nat} {w w' : World} {bs : List Int}
theorem Byt.lt (h : Byt w g bs) : g < w.heap.size := (Array.getElem?_eq_some_iff.1 h).1
theorem Byt.cell (h : Byt w g bs) {i : Nat} (hi : i < bs.length) : w.cell? ⟨g, i, none⟩ = some (.int .u8 (bs.getD i 0)) := by
  rw [cell_of_row w g i _ _ (0, 0) h]
  simpa using iv_at hi
theorem Byt.some_ (h : Byt w g bs) {i : Nat} (hi : i < bs.length) : (w.cell? ⟨g, i, none⟩).isSome = true := by rw [h.cell hi]; rfl
theorem Byt.thawed (h : Byt w g bs) (i : Nat) : w.frozen? ⟨g, i, none⟩ = false := frozen_of_row w g i _ _ h
theorem Byt.set (h : Byt w g bs) (i : Nat) (x : Int) : Byt (w.setCell ⟨g, i, none⟩ (.int .u8 x)) g (bs.set i x) := by
  unfold Byt
  rw [heap_setCell_same w g i _ _ _ h, ← iv_set]
  simp
theorem Byt.sets {l : List Int} {o : Nat} (h : Byt w g bs) : Byt (w.setCells g o (iv .u8 l)) g (pt bs o l) := by
  induction l generalizing w bs o with
  | nil => exact h
  | cons b l ih => exact ih (h.set o b)
theorem Byt.kept (h : Byt w g bs) (hk : Kept c k w w') (hc : c g ≠ k) : Byt w' g bs := (hk.block g h.lt hc).trans h
theorem Byt.go (h : Byt w g bs) (hb : Below w.heap.size w w') : Byt w' g bs := (hb.block g h.lt).trans h
theorem Byt.row (h : Byt w g bs) (hm : bs.length ≤ 1048576) : Row w w.heap.size (some ⟨g, 0, none⟩) bs.length bs.length (iv .u8 bs) :=
  ⟨iv_len, Nat.le_refl _, by unfold maxLen; omega, (fun h => by cases h), fun _ => ⟨g, 0, rfl, h.lt, fun i hi => by rw [Nat.zero_add, h.cell hi, iv_at hi]⟩⟩
/-- m bytes from place o on, as a slice. -/
theorem Byt.sub (h : Byt w g bs) (hm : bs.length ≤ 1048576) {o m q : Nat} (ho : o + m ≤ bs.length) (hq : 0 < m → q = o) :
    Row w w.heap.size (some ⟨g, q, none⟩) m (bs.length - o) (iv .u8 ((bs.drop o).take m)) :=
  ⟨by rw [iv_len, List.length_take, List.length_drop]; omega, by omega, by unfold maxLen; omega, (fun h => by cases h), fun hn => ⟨g, q, rfl, h.lt, fun i hi => by
    rw [hq hn, h.cell (by omega), iv_at (by rw [List.length_take, List.length_drop]; omega)]
    simp [List.getD, hi]⟩⟩
theorem setCells_size' {l : List Value} {o : Nat} {w : World} : (w.setCells g o l).heap.size = w.heap.size := setCells_size
theorem Kept.sets (hg : c g = k) {l : List Value} {o : Nat} : Kept c k w (w.setCells g o l) := Kept.ofGrown setCells_grown (fun g' hg' => by cases hg'; exact hg)
end

/-- The block a is an arena: its allocator is at p, with the free set F and the allocated extents A; its bytes bs are in block g. -/
structure Arn (w : World) (c : Nat → Nat) (a p g : Nat) (F A : List (Int × Int)) (bs : List Int) : Prop where
  blk : w.heap[a]? = some (.cells #[.pointer (some ⟨p, 0, none⟩), .slice (some ⟨g, 0, none⟩) bs.length bs.length] 56 (0, 0))
  al : Alc w c 1 p F A
  byt : Byt w g bs
  ca : c a = 3
  cg : c g = 4
  fit : Fit .u8 bs
  small : bs.length ≤ 1048576
section
variable {c c' : Nat → Nat} {a p g j : Nat} {w w' : World} {F A : List (Int × Int)} {bs : List Int}
theorem Arn.lt (h : Arn w c a p g F A bs) : a < w.heap.size := (Array.getElem?_eq_some_iff.1 h.blk).1
theorem Arn.cell0 (h : Arn w c a p g F A bs) : w.cell? ⟨a, 0, none⟩ = some (.pointer (some ⟨p, 0, none⟩)) := cell_of_row w a 0 _ _ _ h.blk
theorem Arn.cell1 (h : Arn w c a p g F A bs) : w.cell? ⟨a, 1, none⟩ = some (.slice (some ⟨g, 0, none⟩) bs.length bs.length) := cell_of_row w a 1 _ _ _ h.blk
/-- What other colours write leaves it as it is. -/
theorem Arn.kept (h : Arn w c a p g F A bs) (hk : Kept c j w w') (h1 : j ≠ 1) (h3 : j ≠ 3) (h4 : j ≠ 4) (hc : ∀ x, x < w.heap.size → c' x = c x) : Arn w' c' a p g F A bs :=
  ⟨(hk.block a h.lt (by rw [h.ca]; omega)).trans h.blk, h.al.kept hk h1 hc, h.byt.kept hk (by rw [h.cg]; omega), (hc a h.lt).trans h.ca, (hc g h.byt.lt).trans h.cg, h.fit, h.small⟩
theorem Arn.go (h : Arn w c a p g F A bs) (hb : Below w.heap.size w w') : Arn w' c a p g F A bs := h.kept (j := 7) (Kept.ofBelow hb) (by omega) (by omega) (by omega) (fun _ _ => rfl)
theorem Arn.recol (h : Arn w c a p g F A bs) (hc : ∀ x, x < w.heap.size → c' x = c x) : Arn w c' a p g F A bs := h.kept (j := 7) Kept.refl (by omega) (by omega) (by omega) hc
/-- Its bytes have been written. -/
theorem Arn.wrote {bs' : List Int} (h : Arn w c a p g F A bs) (hk : Kept c 4 w w') (hb : Byt w' g bs') (hl : bs'.length = bs.length) (hf : Fit .u8 bs') : Arn w' c a p g F A bs' :=
  ⟨by rw [hl]; exact (hk.block a h.lt (by rw [h.ca]; omega)).trans h.blk, h.al.kept hk (by omega) (fun _ _ => rfl), hb, h.ca, h.cg, hf, by rw [hl]; exact h.small⟩
end

/-- n bytes from off on lie within size bytes. -/
def wi (off n size : Int) : Bool := decide (0 ≤ off) && decide (off ≤ size - n)
theorem wi_is {off n size : Int} (h : wi off n size = true) : 0 ≤ off ∧ off + n ≤ size := by
  simp [wi] at h
  omega
/-- What the check of an access to a number says. -/
noncomputable def numC (A : List (Int × Int)) (x y off n : Int) : Int :=
  if (x, y) ∈ A then if n = 1 ∨ n = 2 ∨ n = 4 ∨ n = 8 then if wi off n y = true then 0 else 7 else 1 else 6
/-- A number of 64 bits. -/
def I64 (x : Int) : Prop := -9223372036854775808 ≤ x ∧ x ≤ 9223372036854775807

theorem within_any (x y off n : Int) (w : World) (hy : 0 ≤ y ∧ y ≤ 1048576) (hn : 0 ≤ n ∧ n ≤ 9223372036854775807) :
    Calls Try.prog 42 #[.agg #[.int .i64 x, .int .i64 y], .int .i64 off, .int .i64 n] w (Tell w (wi off n y)) := by
  obtain ⟨y0, y1⟩ := hy
  obtain ⟨n0, n1⟩ := hn
  by_cases h0 : 0 ≤ off
  · have d0 : decide (0 ≤ off) = true := decide_eq_true h0
    obtain ⟨b, hb⟩ : ∃ b, decide (off ≤ y - n) = b := ⟨_, rfl⟩
    have HW : Hid (wi off n y = b) := Lib.hid (by simp [wi, h0, hb])
    go_enter Try.func42, Try.ntmps42
    go_wp2
    go_ret
    exact ⟨by rw [HW.out]; rfl, (Below.refl _ _).alloc (Nat.le_refl _) _⟩
  · have d0 : decide (0 ≤ off) = false := decide_eq_false h0
    have HW : Hid (wi off n y = false) := Lib.hid (by simp [wi, h0])
    go_enter Try.func42, Try.ntmps42
    go_wp2
    go_ret
    exact ⟨by rw [HW.out]; rfl, (Below.refl _ _).alloc (Nat.le_refl _) _⟩

/-- What the arena's allocator is. -/
def PtE (w : World) (p : Nat) (e : Ending) (w' : World) : Prop := e = .returned (.pointer (some ⟨p, 0, none⟩)) ∧ Below w.heap.size w w'
theorem parts_any {c : Nat → Nat} {a p g : Nat} {F A : List (Int × Int)} {bs : List Int} (w : World) (h : Arn w c a p g F A bs) :
    Calls Try.prog 40 #[.pointer (some ⟨a, 0, none⟩)] w (PtE w p) := by
  have h0 := h.cell0
  clear h
  go_enter Try.func40, Try.ntmps40
  go_wp2
  go_ret
  exact ⟨rfl, Below.refl _ _⟩

/-- Where a view begins. -/
def vq (L o : Nat) : Nat := if L = o then 0 else o
theorem vq_is {L o m : Nat} (h : o + m ≤ L) (hm : 0 < m) : vq L o = o := if_neg (by omega)
theorem view_is {c : Nat → Nat} {a p g : Nat} {F A : List (Int × Int)} {bs : List Int} (x y off n : Int) (w : World) (h : Arn w c a p g F A bs) (h0 : 0 ≤ x) (h1 : 0 ≤ off) (h2 : 0 ≤ n) (h3 : x + off + n ≤ bs.length) :
    Calls Try.prog 37 #[.pointer (some ⟨a, 0, none⟩), .agg #[.int .i64 x, .int .i64 y], .int .i64 off, .int .i64 n] w fun e w' => e = .returned (.slice (some ⟨g, vq bs.length (x + off).toNat, none⟩) n.toNat (bs.length - (x + off).toNat)) ∧ Below w.heap.size w w' := by
  have hs := h.small
  have HC := h.cell1
  have hlt := h.lt
  generalize bs.length = L at *
  have hsl : ∀ wx : World, (Instr.slice 40 (.slice (some ⟨g, 0, none⟩) L L) (some (.int .i64 (x + off))) (some (.int .i64 (x + off + n))) none).run Try.prog wx = .ok (.slice (some ⟨g, vq L (x + off).toNat, none⟩) n.toNat (L - (x + off).toNat)) wx := by
    intro wx
    rw [run_slice_lh (P := Try.prog) wx 40 _ L L Try.underlying40 .i64 .i64 (x + off) (x + off + n) (by omega) (by omega) (by omega)]
    have e1 : (x + off + n).toNat - (x + off).toNat = n.toNat := by omega
    unfold vq
    by_cases hc : L = (x + off).toNat
    · simp [sliced, go_sem, ← hc]
      omega
    · simp [sliced, go_sem, e1, hc]
  generalize vq L (x + off).toNat = q at *
  have hc : (w.alloc (.cells #[.int .i64 x, .int .i64 y] 31)).cell? ⟨a, 1, none⟩ = some (.slice (some ⟨g, 0, none⟩) L L) := cell_under HC _
  clear h HC
  go_enter Try.func37, Try.ntmps37
  go_wp2
  go_ret
  exact ⟨rfl, (Below.refl _ _).alloc (Nat.le_refl _) _⟩
def ViE (w : World) (g o m L : Nat) (e : Ending) (w' : World) : Prop := ∃ q : Nat, e = .returned (.slice (some ⟨g, q, none⟩) m (L - o)) ∧ (0 < m → q = o) ∧ Below w.heap.size w w'
theorem view_any {c : Nat → Nat} {a p g : Nat} {F A : List (Int × Int)} {bs : List Int} (x y off n : Int) (w : World) (h : Arn w c a p g F A bs) (h0 : 0 ≤ x) (h1 : 0 ≤ off) (h2 : 0 ≤ n) (h3 : x + off + n ≤ bs.length) :
    Calls Try.prog 37 #[.pointer (some ⟨a, 0, none⟩), .agg #[.int .i64 x, .int .i64 y], .int .i64 off, .int .i64 n] w (ViE w g (x + off).toNat n.toNat bs.length) :=
  (view_is x y off n w h h0 h1 h2 h3).mono fun _ _ ⟨e, hb⟩ => ⟨_, e, fun hm => vq_is (m := n.toNat) (by omega) hm, hb⟩

theorem numC_6 {A : List (Int × Int)} {x y off n : Int} (h : (x, y) ∉ A) : numC A x y off n = 6 := if_neg h
theorem numC_1 {A : List (Int × Int)} {x y off n : Int} (h : (x, y) ∈ A) (h2 : ¬ (n = 1 ∨ n = 2 ∨ n = 4 ∨ n = 8)) : numC A x y off n = 1 := by unfold numC; rw [if_pos h, if_neg h2]
theorem numC_w {A : List (Int × Int)} {x y off n : Int} (h : (x, y) ∈ A) (h2 : n = 1 ∨ n = 2 ∨ n = 4 ∨ n = 8) : numC A x y off n = if wi off n y = true then 0 else 7 := by unfold numC; rw [if_pos h, if_pos h2]
theorem numC_0 {A : List (Int × Int)} {x y off n : Int} (h : numC A x y off n = 0) : (x, y) ∈ A ∧ (n = 1 ∨ n = 2 ∨ n = 4 ∨ n = 8) ∧ wi off n y = true := by
  unfold numC at h
  by_cases h1 : (x, y) ∈ A
  · rw [if_pos h1] at h
    by_cases h2 : n = 1 ∨ n = 2 ∨ n = 4 ∨ n = 8
    · rw [if_pos h2] at h
      by_cases h3 : wi off n y = true
      · exact ⟨h1, h2, h3⟩
      · rw [if_neg h3] at h; omega
    · rw [if_neg h2] at h; omega
  · rw [if_neg h1] at h; omega

theorem number_any (c : Nat → Nat) (a p g : Nat) (F A : List (Int × Int)) (bs : List Int) (size x y off n : Int) (w : World) (h : Arn w c a p g F A bs) (hv : Gd size F A) (hA : A.length ≤ 900) :
    Calls Try.prog 36 #[.pointer (some ⟨a, 0, none⟩), .agg #[.int .i64 x, .int .i64 y], .int .i64 off, .int .i64 n] w (NumE w (numC A x y off n)) := by
  have hb0 : Below w.heap.size w (w.alloc (.cells #[.int .i64 x, .int .i64 y] 31)) := (Below.refl _ _).alloc (Nat.le_refl _) _
  have HBX := Lib.hid (Box.new (w := w) (x := x) (y := y))
  have HB0 := Lib.hid hb0
  have HR := Lib.hid (h.go hb0)
  have HV := Lib.hid hv
  have hin : (x, y) ∈ A → 0 ≤ y ∧ y ≤ 1048576 := fun hm => by
    have h1 := (hv.inn _ hm).1
    have h2 := (hv.inn _ hm).2.1
    have h3 := (hv.inn _ hm).2.2
    have h4 := hv.n1
    simp only at h1 h2 h3
    omega
  have HIN := Lib.hid hin
  clear h hb0 hv hin
  go_enter Try.func36, Try.ntmps36
  go_wp2
  generalize w.alloc (.cells #[.int .i64 x, .int .i64 y] 31) = w1 at *
  have a1 : ∀ m : Later w1, m.val.cell? ⟨w.heap.size, 0, none⟩ = some (.int .i64 x) := fun m => later_old m HBX.out.cell0
  have a2 : ∀ m : Later w1, m.val.cell? ⟨w.heap.size, 1, none⟩ = some (.int .i64 y) := fun m => later_old m HBX.out.cell1
  have H1 := Lib.hid (fun m : Later w1 => parts_any m.val (HR.out.go m.2))
  have H2 := Lib.hid (fun m : Later w1 => has_alc c 1 p F A size x y m.val (HR.out.go m.2).al HV.out (by omega))
  generalize hd : decide ((x, y) ∈ A) = d at *
  have HD := Lib.hid hd
  clear hd
  refine wp_region_later (by kernel_rfl) (by kernel_rfl) ?_
  repeat (go_big_quiet_step (first | (go_at_call 40; exact Calls.later (H1.out _)) | (go_at_call 41; exact Calls.later (H2.out _))))
  refine wpQuiet_nil ?_
  rintro w4 ⟨⟨_, hq⟩, rfl⟩
  have HB4 := Lib.hid (Below.then HB0.out hq (Nat.le_refl _))
  have HE4 := Lib.hid (HBX.out.go hq)
  have g0 := HE4.out.cell0
  have g1 := HE4.out.cell1
  clear hq H1 H2 HB0 HBX HR a1 a2
  cases d with
  | false =>
    have HN := Lib.hid (numC_6 (off := off) (n := n) (of_decide_eq_false HD.out))
    go_wp2
    go_ret
    exact ⟨by rw [HN.out]; rfl, HB4.out⟩
  | true =>
    have HM := Lib.hid (of_decide_eq_true HD.out)
    obtain ⟨y0, y1⟩ := HIN.out HM.out
    by_cases hw : n = 1 ∨ n = 2 ∨ n = 4 ∨ n = 8
    · have HW := Lib.hid (within_any x y off n w4 ⟨y0, y1⟩ (by omega))
      have HN := Lib.hid (numC_w (off := off) HM.out hw)
      obtain ⟨n0, n1⟩ : 1 ≤ n ∧ n ≤ 8 := by omega
      have d1 : (n != 1) = true ∨ (n != 1) = false := by cases (n != 1) <;> simp
      generalize wi off n y = b at *
      have hor : ((n != 1) && (n != 2) && (n != 4) && (n != 8)) = false := by
        rcases hw with rfl | rfl | rfl | rfl <;> rfl
      rcases hw with rfl | rfl | rfl | rfl
      all_goals
        cases b with
        | false =>
          go_wp2_with fail
          refine HW.out.mono ?_
          rintro e w5 ⟨rfl, hb⟩
          have HB5 := Lib.hid (Below.then HB4.out hb (Nat.le_refl _))
          clear hb HW hor d1
          go_wp2
          go_ret
          exact ⟨by rw [HN.out]; rfl, HB5.out⟩
        | true =>
          go_wp2_with fail
          refine HW.out.mono ?_
          rintro e w5 ⟨rfl, hb⟩
          have HB5 := Lib.hid (Below.then HB4.out hb (Nat.le_refl _))
          clear hb HW hor d1
          go_wp2
          go_ret
          exact ⟨by rw [HN.out]; rfl, HB5.out⟩
    · have HN := Lib.hid (numC_1 (off := off) HM.out hw)
      have d1 : (n != 1) = true := by rw [bne_iff_ne]; omega
      have d2 : (n != 2) = true := by rw [bne_iff_ne]; omega
      have d3 : (n != 4) = true := by rw [bne_iff_ne]; omega
      have d4 : (n != 8) = true := by rw [bne_iff_ne]; omega
      clear hw
      go_wp2
      go_ret
      exact ⟨by rw [HN.out]; rfl, HB4.out⟩

theorem fitsA_any (c : Nat → Nat) (a p g : Nat) (F A : List (Int × Int)) (bs : List Int) (n : Int) (w : World) (h : Arn w c a p g F A bs) (hF : F.length ≤ 1000000) :
    Calls Try.prog 28 #[.pointer (some ⟨a, 0, none⟩), .int .i64 n] w (NumE w (chR F n).2) := by
  have H1 := Lib.hid (parts_any w h)
  have HR := Lib.hid h
  clear h
  go_enter Try.func28, Try.ntmps28
  go_wp2_with fail
  refine H1.out.mono ?_
  rintro e w1 ⟨rfl, hb⟩
  have HB1 := Lib.hid hb
  have H2 := Lib.hid (fits_any c 1 p F A n w1 (HR.out.go hb).al hF)
  generalize (chR F n).2 = r at *
  clear hb H1
  go_wp2_with fail
  refine H2.out.mono ?_
  rintro e w2 ⟨rfl, hb⟩
  have HB2 := Lib.hid (Below.then HB1.out hb (Nat.le_refl _))
  clear hb H2 HB1
  go_wp2
  go_ret
  exact ⟨rfl, HB2.out⟩
theorem freeListA_any (c : Nat → Nat) (a p g : Nat) (F A : List (Int × Int)) (bs : List Int) (w : World) (h : Arn w c a p g F A bs) (hF : F.length ≤ 1000000) :
    Calls Try.prog 26 #[.pointer (some ⟨a, 0, none⟩)] w (MadeE w F) := by
  have H1 := Lib.hid (parts_any w h)
  have HR := Lib.hid h
  clear h
  go_enter Try.func26, Try.ntmps26
  go_wp2_with fail
  refine H1.out.mono ?_
  rintro e w1 ⟨rfl, hb⟩
  have HB1 := Lib.hid hb
  have H2 := Lib.hid (freeList_any c 1 p F A w1 (HR.out.go hb).al hF)
  clear hb H1
  go_wp2_with fail
  refine H2.out.mono ?_
  rintro e w2 ⟨v, rfl, ho, hb⟩
  have HB2 := Lib.hid (Below.then HB1.out hb (Nat.le_refl _))
  have HO := Lib.hid (ho.down (B := w.heap.size) HB1.out.size)
  obtain ⟨A', n', c', rfl, _⟩ := ho.shape
  clear ho hb H2 HB1
  go_wp2
  go_ret
  exact ⟨_, rfl, HO.out, HB2.out⟩

/-- What a function says that makes bytes. -/
def MadB (w : World) (l : List Int) (e : Ending) (w' : World) : Prop := ∃ v, e = .returned v ∧ Own 5 w' w.heap.size v (iv .u8 l) ∧ Below w.heap.size w w'
theorem info8 : (Try.prog.info? 5).map (fun i => (i.zero, i.size, i.bytes)) = some (some (.int .u8 0), 1, 1) := by kernel_rfl
theorem infoU8 : ∃ i, Try.prog.info? 5 = some i ∧ i.zero = some (.int .u8 0) ∧ i.size = 1 ∧ i.bytes = 1 := info_parts info8
theorem cloneB_any (x : Addr) (n c : Nat) (l : List Int) (w : World) (h : Row w w.heap.size (some x) n c (iv .u8 l)) (hn : n ≤ 2000000) :
    Calls Try.prog 43 #[.slice (some x) n c] w (MadB w l) := by
  obtain ⟨i0, hi, hz0, hz1, hz2⟩ := infoU8
  have HX := Lib.hid h
  have hq : ∀ W : World, (binOp .eql 40 (.slice (some x) n c) (.slice none 0 0)).run Try.prog W = .ok (.bool false) W := fun W => Lib.run_eql_slice_nil W _ _ (some x) n c 0 0 Try.underlying40
  have HO : Hid (Own 5 (w.alloc (.cells #[] 5)) w.heap.size (.slice (some ⟨w.heap.size, 0, none⟩) 0 0) []) := Lib.hid (World.ownsRow_made w #[] 0 (Nat.le_refl _) (Nat.zero_le _) rfl)
  clear h
  go_enter Try.func43, Try.ntmps43
  go_wp2_with (at_builtin; go_must (refine wpList_app _ rfl (.tmp 5) (.tmp 6) 40 rfl Try.underlying40 hi hz0 rfl hz1 (by omega) HO.out rfl (HX.out.alloc _) rfl iv_one (by simp; omega) (by simp) ?_); intro v2 w2 ho2 hb2)
  go_ret
  exact ⟨_, rfl, by simpa using ho2, ((Below.refl _ _).alloc (Nat.le_refl _) _).trans hb2⟩

/-- What Load says. -/
def LdE (w : World) (v r : Int) (e : Ending) (w' : World) : Prop := e = .returned (.tuple #[.int .u64 v, .int .i64 r]) ∧ Below w.heap.size w w'
/-- The number in n bytes from o on. -/
def ldV (bs : List Int) (o n : Nat) : Int := le ((bs.drop o).take n)
theorem load_no (c : Nat → Nat) (a p g : Nat) (F A : List (Int × Int)) (bs : List Int) (size x y off n r : Int) (w : World) (h : Arn w c a p g F A bs) (hv : Gd size F A) (hA : A.length ≤ 900) (hr : numC A x y off n = r) (hr0 : r ≠ 0) :
    Calls Try.prog 14 #[.pointer (some ⟨a, 0, none⟩), .agg #[.int .i64 x, .int .i64 y], .int .i64 off, .int .i64 n] w (LdE w 0 r) := by
  have hb0 : Below w.heap.size w (w.alloc (.cells #[.int .i64 x, .int .i64 y] 31)) := (Below.refl _ _).alloc (Nat.le_refl _) _
  have HB0 := Lib.hid hb0
  have H1 := Lib.hid (number_any c a p g F A bs size x y off n _ (h.go hb0) hv hA)
  rw [hr] at H1
  have hr1 : (r != 0) = true := by rw [bne_iff_ne]; exact hr0
  clear h hb0 hv hr
  go_enter Try.func14, Try.ntmps14
  go_wp2_with fail
  refine H1.out.mono ?_
  rintro e w1 ⟨rfl, hb⟩
  have HB1 := Lib.hid (Below.then HB0.out hb (Nat.le_refl _))
  clear hb H1 HB0
  go_wp2
  go_ret2
  exact ⟨rfl, HB1.out⟩
theorem fit_sub {bs : List Int} (h : Fit .u8 bs) (o n : Nat) : Fit .u8 ((bs.drop o).take n) := (h.drop o).take n
theorem load_yes (c : Nat → Nat) (a p g : Nat) (F A : List (Int × Int)) (bs : List Int) (x y off n : Int) (w : World) (h : Arn w c a p g F A bs) (hv : Gd bs.length F A) (hA : A.length ≤ 900) (hr : numC A x y off n = 0) :
    Calls Try.prog 14 #[.pointer (some ⟨a, 0, none⟩), .agg #[.int .i64 x, .int .i64 y], .int .i64 off, .int .i64 n] w (LdE w (ldV bs (x + off).toNat n.toNat) 0) := by
  obtain ⟨hm, hn, hw⟩ := numC_0 hr
  obtain ⟨o0, o1⟩ := wi_is hw
  have hin := hv.inn _ hm
  have x0 := hin.1
  have x1 := hin.2.2
  simp only at x0 x1
  have n1 : 1 ≤ n ∧ n ≤ 8 := by omega
  have hb0 : Below w.heap.size w (w.alloc (.cells #[.int .i64 x, .int .i64 y] 31)) := (Below.refl _ _).alloc (Nat.le_refl _) _
  have HB0 := Lib.hid hb0
  have HE0 := Lib.hid (Box.new (w := w) (x := x) (y := y))
  have HR := Lib.hid (h.go hb0)
  have H1 := Lib.hid (number_any c a p g F A bs _ x y off n _ (h.go hb0) hv hA)
  rw [hr] at H1
  have hsm := h.small
  obtain ⟨l, hl⟩ : ∃ l, l = (bs.drop (x + off).toNat).take n.toNat := ⟨_, rfl⟩
  have hll : l.length = n.toNat := by rw [hl, List.length_take, List.length_drop]; omega
  have HF : Hid (Fit .u8 l) := Lib.hid (by rw [hl]; exact fit_sub h.fit _ _)
  have HV : Hid (ldV bs (x + off).toNat n.toNat = le l) := Lib.hid (by rw [hl]; rfl)
  have HL := Lib.hid hl
  clear h hb0 hv hr hm hn hw hin hl
  go_enter Try.func14, Try.ntmps14
  go_wp2_with fail
  generalize w.alloc (.cells #[.int .i64 x, .int .i64 y] 31) = w1 at *
  refine H1.out.mono ?_
  rintro e w2 ⟨rfl, hb⟩
  have HB2 := Lib.hid (Below.then HB0.out hb (Nat.le_refl _))
  have HE2 := Lib.hid (HE0.out.go hb)
  have HR2 := Lib.hid (HR.out.go hb)
  have g0 := HE2.out.cell0
  have g1 := HE2.out.cell1
  clear hb H1 HB0 HE0 HR
  go_wp2_with fail
  refine (view_any x y off n w2 HR2.out x0 o0 (by omega) (by omega)).mono ?_
  rintro e w3 ⟨q, rfl, hq, hb⟩
  obtain rfl := hq (by omega)
  have HX := Lib.hid ((HR2.out.go hb).byt.sub (o := (x + off).toNat) (m := n.toNat) hsm (by omega) (fun _ => rfl))
  rw [← HL.out] at HX
  have HB3 := Lib.hid (Below.then HB2.out hb (Nat.le_refl _))
  generalize hN : n.toNat = N at *
  have hN8 : N ≤ 8 ∧ 1 ≤ N := by omega
  generalize (x + off).toNat = o at *
  generalize bs.length - o = cp at *
  clear hb HR2 HB2 HE2 g0 g1 hq
  go_wp2
  go_loop [11, 28] (fun s iv => ∃ (i : Nat) (z : Int), i ≤ N ∧ iv = .int .i64 i ∧ s = .int .u64 z ∧ Hid (z = le (l.take i))) (fun _ iv => N - (intOf iv).toNat)
  case atStart => exact ⟨0, 0, by omega, rfl, rfl, Lib.hid (by simp [le])⟩
  case round =>
    obtain ⟨i, z, hi, rfl, rfl, hh⟩ := hrel
    by_cases hlt : i < N
    · have hlt' : (i : Int) < (N : Int) := by omega
      obtain ⟨b, o', hA', hbw, hc⟩ := HX.out.int hlt
      cases hA'
      have hbd := byte_bd (HF.out.at_ (by decide) i)
      have HST : Hid (bits .or .u64 z (IntKind.u64.wrap (l.getD i 0 * 2 ^ (8 * i))) = le (l.take (i + 1))) := Lib.hid (by
        have h1 := le_bd (HF.out.take i)
        rw [List.length_take, Nat.min_eq_left (by omega), ← hh.out] at h1
        rw [or_byte _ _ i (by omega) h1.1 h1.2 hbd.1 hbd.2, le_take (by omega), hh.out])
      obtain ⟨b0, b1⟩ := hbd
      generalize l.getD i 0 = u at *
      clear hh
      go_wp2
      go_round
      case rel => exact ⟨i + 1, _, by omega, by go_num, rfl, Lib.hid HST.out⟩
      case measure => simp [intOf]; omega
    · obtain rfl : i = N := by omega
      have HZ : Hid (z = le l) := Lib.hid (by rw [hh.out, List.take_of_length_le (by omega)])
      clear hh
      go_wp2
      go_ret2
      exact ⟨by rw [HV.out, ← HZ.out]; rfl, HB3.out⟩

/-- What Read says. -/
def RdE (w : World) (l : List Int) (r : Int) (e : Ending) (w' : World) : Prop := ∃ v, e = .returned (.tuple #[v, .int .i64 r]) ∧ Own 5 w' w.heap.size v (iv .u8 l) ∧ Below w.heap.size w w'
/-- What the check of an access to bytes says. -/
noncomputable def bytC (A : List (Int × Int)) (x y off n : Int) : Int := if (x, y) ∈ A then if n < 0 then 1 else if wi off n y = true then 0 else 7 else 6
theorem bytC_0 {A : List (Int × Int)} {x y off n : Int} (h : bytC A x y off n = 0) : (x, y) ∈ A ∧ 0 ≤ n ∧ wi off n y = true := by
  unfold bytC at h
  by_cases h1 : (x, y) ∈ A
  · rw [if_pos h1] at h
    by_cases h2 : n < 0
    · rw [if_pos h2] at h; omega
    · rw [if_neg h2] at h
      by_cases h3 : wi off n y = true
      · exact ⟨h1, by omega, h3⟩
      · rw [if_neg h3] at h; omega
  · rw [if_neg h1] at h; omega
noncomputable def rdL (A : List (Int × Int)) (bs : List Int) (x y off n : Int) : List Int := if bytC A x y off n = 0 then (bs.drop (x + off).toNat).take n.toNat else []
theorem in_bd {size : Int} {F A : List (Int × Int)} (hv : Gd size F A) {x y : Int} (hm : (x, y) ∈ A) : 0 ≤ x ∧ 0 < y ∧ x + y ≤ size ∧ y ≤ 1048576 := by
  have h1 := (hv.inn _ hm).1
  have h2 := (hv.inn _ hm).2.1
  have h3 := (hv.inn _ hm).2.2
  have h4 := hv.n1
  simp only at h1 h2 h3
  omega
theorem read_any (c : Nat → Nat) (a p g : Nat) (F A : List (Int × Int)) (bs : List Int) (x y off n : Int) (w : World) (h : Arn w c a p g F A bs) (hv : Gd bs.length F A) (hA : A.length ≤ 900) (hn : n ≤ 9223372036854775807) :
    Calls Try.prog 16 #[.pointer (some ⟨a, 0, none⟩), .agg #[.int .i64 x, .int .i64 y], .int .i64 off, .int .i64 n] w (RdE w (rdL A bs x y off n) (bytC A x y off n)) := by
  have hb0 : Below w.heap.size w (w.alloc (.cells #[.int .i64 x, .int .i64 y] 31)) := (Below.refl _ _).alloc (Nat.le_refl _) _
  have HBX := Lib.hid (Box.new (w := w) (x := x) (y := y))
  have HB0 := Lib.hid hb0
  have HR := Lib.hid (h.go hb0)
  have HV := Lib.hid hv
  have hsm := h.small
  have hB := fun hm => in_bd hv (x := x) (y := y) hm
  have HIN := Lib.hid hB
  clear h hb0 hv hB
  go_enter Try.func16, Try.ntmps16
  go_wp2
  generalize w.alloc (.cells #[.int .i64 x, .int .i64 y] 31) = w1 at *
  have a1 : ∀ m : Later w1, m.val.cell? ⟨w.heap.size, 0, none⟩ = some (.int .i64 x) := fun m => later_old m HBX.out.cell0
  have a2 : ∀ m : Later w1, m.val.cell? ⟨w.heap.size, 1, none⟩ = some (.int .i64 y) := fun m => later_old m HBX.out.cell1
  have H1 := Lib.hid (fun m : Later w1 => parts_any m.val (HR.out.go m.2))
  have H2 := Lib.hid (fun m : Later w1 => has_alc c 1 p F A _ x y m.val (HR.out.go m.2).al HV.out (by omega))
  generalize hd : decide ((x, y) ∈ A) = d at *
  have HD := Lib.hid hd
  clear hd
  refine wp_region_later (by kernel_rfl) (by kernel_rfl) ?_
  repeat (go_big_quiet_step (first | (go_at_call 40; exact Calls.later (H1.out _)) | (go_at_call 41; exact Calls.later (H2.out _))))
  refine wpQuiet_nil ?_
  rintro w4 ⟨⟨_, hq⟩, rfl⟩
  have HB4 := Lib.hid (Below.then HB0.out hq (Nat.le_refl _))
  have HE4 := Lib.hid (HBX.out.go hq)
  have HR4 := Lib.hid (HR.out.go hq)
  have g0 := HE4.out.cell0
  have g1 := HE4.out.cell1
  clear hq H1 H2 HB0 HBX HR a1 a2
  cases d with
  | false =>
    have HC : Hid (bytC A x y off n = 6) := Lib.hid (if_neg (of_decide_eq_false HD.out))
    have HL : Hid (rdL A bs x y off n = []) := Lib.hid (by unfold rdL; rw [HC.out, if_neg (by omega)])
    go_wp2
    go_ret2
    exact ⟨_, by rw [HC.out]; rfl, by rw [HL.out]; exact Own.nil _ _ _, HB4.out⟩
  | true =>
    have HM := Lib.hid (of_decide_eq_true HD.out)
    obtain ⟨x0, y0, xy, y1⟩ := HIN.out HM.out
    by_cases hn0 : n < 0
    · have HC : Hid (bytC A x y off n = 1) := Lib.hid (by unfold bytC; rw [if_pos HM.out, if_pos hn0])
      have HL : Hid (rdL A bs x y off n = []) := Lib.hid (by unfold rdL; rw [HC.out, if_neg (by omega)])
      have dn : decide (n < 0) = true := decide_eq_true hn0
      go_wp2
      go_ret2
      exact ⟨_, by rw [HC.out]; rfl, by rw [HL.out]; exact Own.nil _ _ _, HB4.out⟩
    · have dn : decide (n < 0) = false := decide_eq_false hn0
      have HW := Lib.hid (within_any x y off n w4 ⟨by omega, y1⟩ (by omega))
      have HC : Hid (bytC A x y off n = if wi off n y = true then 0 else 7) := Lib.hid (by unfold bytC; rw [if_pos HM.out, if_neg hn0])
      have HWI := Lib.hid (fun h : wi off n y = true => wi_is h)
      generalize wi off n y = b at *
      cases b with
      | false =>
        have HL : Hid (rdL A bs x y off n = []) := Lib.hid (by unfold rdL; rw [HC.out]; rfl)
        go_wp2_with fail
        refine HW.out.mono ?_
        rintro e w5 ⟨rfl, hb⟩
        have HB5 := Lib.hid (Below.then HB4.out hb (Nat.le_refl _))
        clear hb HW
        go_wp2
        go_ret2
        exact ⟨_, by rw [HC.out]; rfl, by rw [HL.out]; exact Own.nil _ _ _, HB5.out⟩
      | true =>
        obtain ⟨o0, o1⟩ := HWI.out rfl
        have HL : Hid (rdL A bs x y off n = (bs.drop (x + off).toNat).take n.toNat) := Lib.hid (by unfold rdL; rw [HC.out]; rfl)
        go_wp2_with fail
        refine HW.out.mono ?_
        rintro e w5 ⟨rfl, hb⟩
        have HB5 := Lib.hid (Below.then HB4.out hb (Nat.le_refl _))
        have HE5 := Lib.hid (HE4.out.go hb)
        have HR5 := Lib.hid (HR4.out.go hb)
        have k0 := HE5.out.cell0
        have k1 := HE5.out.cell1
        clear hb HW HB4 HE4 HR4 g0 g1
        go_wp2_with fail
        refine (view_any x y off n w5 HR5.out x0 o0 (by omega) (by omega)).mono ?_
        rintro e w6 ⟨q, rfl, hq, hb⟩
        have HX := Lib.hid ((HR5.out.go hb).byt.sub (o := (x + off).toNat) (m := n.toNat) hsm (by omega) hq)
        rw [← HL.out] at HX
        have HB6 := Lib.hid (Below.then HB5.out hb (Nat.le_refl _))
        generalize hN : n.toNat = N at *
        have hN8 : N ≤ 1048576 := by omega
        generalize (x + off).toNat = o at *
        generalize bs.length - o = cp at *
        clear hb HR5 HB5 HE5 k0 k1 hq
        go_wp2_with fail
        refine (cloneB_any _ _ _ _ w6 HX.out (by omega)).mono ?_
        rintro e w7 ⟨v, rfl, ho, hb⟩
        have HB7 := Lib.hid (Below.then HB6.out hb (Nat.le_refl _))
        have HO := Lib.hid (ho.down (B := w.heap.size) HB6.out.size)
        obtain ⟨A', n', c', rfl, _⟩ := ho.shape
        clear ho hb
        go_wp2
        go_ret2
        exact ⟨_, by rw [HC.out]; rfl, HO.out, HB7.out⟩
theorem bytes_any (c : Nat → Nat) (a p g : Nat) (F A : List (Int × Int)) (bs : List Int) (w : World) (h : Arn w c a p g F A bs) :
    Calls Try.prog 27 #[.pointer (some ⟨a, 0, none⟩)] w (MadB w bs) := by
  have HC := Lib.hid h.cell1
  have hsm := h.small
  have h1 := h.cell1
  have H2 := Lib.hid (cloneB_any _ _ _ _ w (h.byt.row hsm) (by omega))
  generalize bs.length = L at *
  clear h
  go_enter Try.func27, Try.ntmps27
  go_wp2_with fail
  refine H2.out.mono ?_
  rintro e w2 ⟨v, rfl, ho, hb⟩
  have HB2 := Lib.hid hb
  have HO := Lib.hid ho
  obtain ⟨A', n', c', rfl, _⟩ := ho.shape
  clear ho hb H2
  go_wp2
  go_ret
  exact ⟨_, rfl, HO.out, HB2.out⟩

/-- What has a colour outside of S has not changed; nothing has gone. -/
structure KS (S : Nat → Prop) (c : Nat → Nat) (w w' : World) : Prop where
  os : w'.os = w.os
  tape : w'.tape = w.tape
  output : w'.output = w.output
  size : w.heap.size ≤ w'.heap.size
  block : ∀ g, g < w.heap.size → ¬ S (c g) → w'.heap[g]? = w.heap[g]?
/-- The colours that the program's arena writes, and those that the model writes. -/
def Sp (k : Nat) : Prop := k = 1 ∨ k = 4
def Sm (k : Nat) : Prop := k = 2 ∨ k = 5
instance smDec (k : Nat) : Decidable (Sm k) := inferInstanceAs (Decidable (k = 2 ∨ k = 5))
section
variable {S T : Nat → Prop} {c c' : Nat → Nat} {k : Nat} {w w' w'' : World}
theorem KS.of (h : Kept c k w w') (hk : S k) : KS S c w w' := ⟨h.os, h.tape, h.output, h.size, fun g hg hc => h.block g hg (fun e => hc (e ▸ hk))⟩
theorem KS.ofBelow (h : Below w.heap.size w w') : KS S c w w' := ⟨h.os, h.tape, h.output, h.size, fun g hg _ => h.block g hg⟩
theorem KS.wide (h : KS S c w w') (hs : ∀ k, S k → T k) : KS T c w w' := ⟨h.os, h.tape, h.output, h.size, fun g hg hc => h.block g hg (fun e => hc (hs _ e))⟩
theorem KS.trans (h : KS S c w w') (h' : KS S c' w' w'') (hc : ∀ g, g < w.heap.size → c' g = c g) : KS S c w w'' :=
  ⟨h'.os.trans h.os, h'.tape.trans h.tape, h'.output.trans h.output, Nat.le_trans h.size h'.size, fun g hg h0 => (h'.block g (Nat.lt_of_lt_of_le hg h.size) (by rw [hc g hg]; exact h0)).trans (h.block g hg h0)⟩
theorem KS.below {B : Nat} (h : KS S c w w') (hB : ∀ g, g < B → ¬ S (c g)) (hw : B ≤ w.heap.size) : Below B w w' := ⟨h.os, h.tape, h.output, h.size, fun g hg => h.block g (by omega) (hB g hg)⟩
theorem sp_not {k : Nat} (h1 : k ≠ 1) (h4 : k ≠ 4) : ¬ Sp k := fun h => h.elim h1 h4
theorem sm_not {k : Nat} (h1 : k ≠ 2) (h4 : k ≠ 5) : ¬ Sm k := fun h => h.elim h1 h4
theorem Alc.ks {p : Nat} {F A : List (Int × Int)} (h : Alc w c 1 p F A) (hk : KS Sm c w w') (hc : ∀ g, g < w.heap.size → c' g = c g) : Alc w' c' 1 p F A := by
  have hlt := h.lt
  obtain ⟨vf, va, h1, h2, h3, h4, h5, h6⟩ := h.ex
  have hk' : Kept (fun g => if Sm (c g) then 2 else 1) 2 w w' := ⟨hk.os, hk.tape, hk.output, hk.size, fun g hg hne => hk.block g hg (fun hs => hne (if_pos hs))⟩
  have hn : ∀ g, c g = 1 → (fun g => if Sm (c g) then 2 else 1) g ≠ 2 := fun g hg => by
    show (if Sm (c g) then 2 else 1) ≠ 2
    rw [if_neg (by rw [hg]; exact sm_not (by omega) (by omega))]
    omega
  exact ⟨vf, va, (hk'.block p hlt (hn p h4)).trans h1, h2.keptC hk' (fun g hg => hn g (h5 g hg).1), h3.keptC hk' (fun g hg => hn g (h6 g hg).1), (hc p hlt).trans h4, fun g hg => ⟨(hc g (h2.blk_lt hg)).trans (h5 g hg).1, (h5 g hg).2⟩, fun g hg => ⟨(hc g (h3.blk_lt hg)).trans (h6 g hg).1, (h6 g hg).2⟩⟩
theorem Byt.ks {g : Nat} {bs : List Int} (h : Byt w g bs) (hk : KS S c w w') (hg : ¬ S (c g)) : Byt w' g bs := (hk.block g h.lt hg).trans h
theorem Arn.ks {a p g : Nat} {F A : List (Int × Int)} {bs : List Int} (h : Arn w c a p g F A bs) (hk : KS Sm c w w') (hc : ∀ x, x < w.heap.size → c' x = c x) : Arn w' c' a p g F A bs :=
  ⟨(hk.block a h.lt (by rw [h.ca]; exact sm_not (by omega) (by omega))).trans h.blk, h.al.ks hk hc, h.byt.ks hk (by rw [h.cg]; exact sm_not (by omega) (by omega)), (hc a h.lt).trans h.ca, (hc g h.byt.lt).trans h.cg, h.fit, h.small⟩
theorem Box.ks {b : Nat} {x y : Int} (h : Box w b x y) (hk : KS S c w w') (hg : ¬ S (c b)) : Box w' b x y := (hk.block b h.lt hg).trans h
end

/-- What a method of the arena says that writes. -/
def PrE (w : World) (c : Nat → Nat) (a p g : Nat) (F' A' : List (Int × Int)) (bs' : List Int) (r : Value) (e : Ending) (w' : World) : Prop :=
  e = .returned r ∧ ∃ c', Arn w' c' a p g F' A' bs' ∧ KS Sp c w w' ∧ (∀ x, x < w.heap.size → c' x = c x) ∧ ∀ x, w'.heap.size ≤ x → c' x = 9
theorem prE {w w' : World} {c c1 : Nat → Nat} {a p g : Nat} {F' A' : List (Int × Int)} {bs' : List Int} {r : Value} (h : Arn w' c1 a p g F' A' bs') (hk : KS Sp c w w') (hc : ∀ x, x < w.heap.size → c1 x = c x) : PrE w c a p g F' A' bs' r (.returned r) w' :=
  ⟨rfl, rc c1 w'.heap.size 9, h.recol (fun _ hx => rc_old hx), hk, fun x hx => (rc_old (Nat.lt_of_lt_of_le hx hk.size)).trans (hc x hx), fun _ hx => rc_new hx⟩

/-- What Store says, and what it makes of the bytes. -/
noncomputable def stC (A : List (Int × Int)) (x y off : Int) (n : Nat) (v : Int) : Int := if numC A x y off n = 0 then if v / 2 ^ (8 * n) = 0 then 0 else 9 else numC A x y off n
noncomputable def stB (A : List (Int × Int)) (bs : List Int) (x y off : Int) (n : Nat) (v : Int) : List Int := if stC A x y off n v = 0 then pt bs (x + off).toNat (by8 v n) else bs
theorem store_no (c : Nat → Nat) (a p g : Nat) (F A : List (Int × Int)) (bs : List Int) (x y off n v r : Int) (w : World) (h : Arn w c a p g F A bs) (hv : Gd bs.length F A) (hA : A.length ≤ 900) (hr : numC A x y off n = r) (hr0 : r ≠ 0) :
    Calls Try.prog 18 #[.pointer (some ⟨a, 0, none⟩), .agg #[.int .i64 x, .int .i64 y], .int .i64 off, .int .i64 n, .int .u64 v] w (PrE w c a p g F A bs (.int .i64 r)) := by
  have hb0 : Below w.heap.size w (w.alloc (.cells #[.int .i64 x, .int .i64 y] 31)) := (Below.refl _ _).alloc (Nat.le_refl _) _
  have HB0 := Lib.hid hb0
  have H1 := Lib.hid (number_any c a p g F A bs _ x y off n _ (h.go hb0) hv hA)
  rw [hr] at H1
  have hr1 : (r != 0) = true := by rw [bne_iff_ne]; exact hr0
  have HR := Lib.hid h
  clear h hb0 hv hr
  go_enter Try.func18, Try.ntmps18
  go_wp2_with fail
  refine H1.out.mono ?_
  rintro e w1 ⟨rfl, hb⟩
  have HB1 := Lib.hid (Below.then HB0.out hb (Nat.le_refl _))
  clear hb H1 HB0
  go_wp2
  go_ret
  exact prE (HR.out.go HB1.out) (KS.ofBelow HB1.out) (fun _ _ => rfl)
theorem store_yes (c : Nat → Nat) (a p g : Nat) (F A : List (Int × Int)) (bs : List Int) (x y off v : Int) (N : Nat) (w : World) (h : Arn w c a p g F A bs) (hv : Gd bs.length F A) (hA : A.length ≤ 900) (hr : numC A x y off N = 0) :
    Calls Try.prog 18 #[.pointer (some ⟨a, 0, none⟩), .agg #[.int .i64 x, .int .i64 y], .int .i64 off, .int .i64 N, .int .u64 v] w (PrE w c a p g F A (stB A bs x y off N v) (.int .i64 (stC A x y off N v))) := by
  obtain ⟨hm, hn, hw⟩ := numC_0 hr
  obtain ⟨o0, o1⟩ := wi_is hw
  obtain ⟨x0, _, xy, y1⟩ := in_bd hv hm
  have n1 : 1 ≤ N ∧ N ≤ 8 := by omega
  have hb0 : Below w.heap.size w (w.alloc (.cells #[.int .i64 x, .int .i64 y] 31)) := (Below.refl _ _).alloc (Nat.le_refl _) _
  have HB0 := Lib.hid hb0
  have HE0 := Lib.hid (Box.new (w := w) (x := x) (y := y))
  have HR := Lib.hid (h.go hb0)
  have H1 := Lib.hid (number_any c a p g F A bs _ x y off N _ (h.go hb0) hv hA)
  rw [hr] at H1
  have hsm := h.small
  have HC : Hid (stC A x y off N v = if v / 2 ^ (8 * N) = 0 then 0 else 9) := Lib.hid (by unfold stC; rw [if_pos hr])
  have HS : Hid (stB A bs x y off N v = if stC A x y off N v = 0 then pt bs (x + off).toNat (by8 v N) else bs) := Lib.hid rfl
  generalize stC A x y off N v = sc at *
  generalize stB A bs x y off N v = sb at *
  have hcg := h.cg
  clear h hb0 hv hr hm hn hw
  go_enter Try.func18, Try.ntmps18
  go_wp2_with fail
  generalize w.alloc (.cells #[.int .i64 x, .int .i64 y] 31) = w1 at *
  refine H1.out.mono ?_
  rintro e w2 ⟨rfl, hb⟩
  have HB2 := Lib.hid (Below.then HB0.out hb (Nat.le_refl _))
  have HE2 := Lib.hid (HE0.out.go hb)
  have HR2 := Lib.hid (HR.out.go hb)
  have g0 := HE2.out.cell0
  have g1 := HE2.out.cell1
  clear hb H1 HB0 HE0 HR
  by_cases hz : v / 2 ^ (8 * N) = 0
  · rw [if_pos hz] at HC
    rw [HC.out, if_pos rfl] at HS
    have hz1 : (v / 2 ^ (8 * N) != 0) = false := by simp [hz]
    have HZ := Lib.hid hz
    clear hz
    go_wp2_with fail
    refine (view_any x y off N w2 HR2.out x0 o0 (by omega) (by omega)).mono ?_
    rintro e w3 ⟨q, rfl, hq, hb⟩
    obtain rfl := hq (by omega)
    have HR3 := Lib.hid (HR2.out.go hb)
    have HB3 := Lib.hid (Below.then HB2.out hb (Nat.le_refl _))
    have HK3 : Hid (Kept c 4 w w3) := Lib.hid (Kept.ofBelow HB3.out)
    have ho : (x + off).toNat + N ≤ bs.length := by omega
    rw [show (N : Int).toNat = N by omega]
    generalize (x + off).toNat = o at *
    generalize hcp : bs.length - o = cp at *
    have hcp' : N ≤ cp := by omega
    clear hb HR2 HB2 HE2 g0 g1 hq hcp
    have hgw : g < w3.heap.size := HR3.out.byt.lt
    go_wp2
    go_loopw [34] (fun iv wr => ∃ (i : Nat), i ≤ N ∧ iv = .int .i64 i ∧ Hid (Byt wr g (pt bs o (by8 v i)) ∧ Kept c 4 w3 wr)) (fun iv _ => N - (intOf iv).toNat)
    case atStart => exact ⟨0, by omega, rfl, Lib.hid ⟨HR3.out.byt, Kept.refl⟩⟩
    case round =>
      obtain ⟨i, hi, rfl, hh⟩ := hrel
      by_cases hlt : i < N
      · have hlt' : (i : Int) < (N : Int) := by omega
        have hc := hh.out.1.cell (i := o + i) (by rw [pt_len]; omega)
        have hf := hh.out.1.thawed (o + i)
        have HST : Hid (Byt (wr.setCell ⟨g, o + i, none⟩ (.int .u8 (v / 2 ^ (8 * i) % 256))) g (pt bs o (by8 v (i + 1)))) := Lib.hid (by rw [pt_by8, pow256]; exact hh.out.1.set _ _)
        have HKT : Hid (Kept c 4 w3 (wr.setCell ⟨g, o + i, none⟩ (.int .u8 (v / 2 ^ (8 * i) % 256)))) := Lib.hid (hh.out.2.own hcg _)
        clear hh
        go_wp2
        go_roundw
        case rel => exact ⟨i + 1, by omega, by go_num, Lib.hid ⟨HST.out, HKT.out⟩⟩
        case measure => simp [intOf]; omega
      · obtain rfl : i = N := by omega
        have HF := Lib.hid (hh.out.1)
        have HK := Lib.hid (HK3.out.trans hh.out.2)
        have HK' := Lib.hid hh.out.2
        clear hh
        go_wp2
        go_ret
        rw [HC.out, HS.out]
        exact prE (HR3.out.wrote HK'.out HF.out pt_len (pt_fit HR3.out.fit by8_fit)) (KS.of HK.out (.inr rfl)) (fun _ _ => rfl)
  · rw [if_neg hz] at HC
    have HS' : Hid (sb = bs) := Lib.hid (by rw [HS.out, HC.out]; rfl)
    have hz1 : (v / 2 ^ (8 * N) != 0) = true := by simpa using hz
    have HZ := Lib.hid hz
    clear hz
    go_wp2
    go_ret
    rw [HC.out, HS'.out]
    exact prE (HR2.out) (KS.ofBelow HB2.out) (fun _ _ => rfl)

theorem infoU8s : (Try.prog.info? 5).map (·.size) = some 1 := by kernel_rfl
/-- A copy of as many bytes as there are into a view. -/
theorem copy_run (w : World) (ty : TypeId) (g q o m cp cb : Nat) (Ab : Option Addr) (bs l : List Int) (hB : Byt w g bs) (hq : 0 < m → q = o) (ho : o + m ≤ bs.length) (hr : Row w w.heap.size Ab m cb (iv .u8 l)) :
    ∃ r, (Builtin.copy_ #[40, 40] ty #[.slice (some ⟨g, q, none⟩) m cp, .slice Ab m cb]).run Try.prog w = .ok r (w.setCells g o (iv .u8 l)) := by
  have hl := hr.len
  rw [iv_len] at hl
  rcases Nat.eq_zero_or_pos m with rfl | hm
  · obtain rfl : l = [] := List.eq_nil_of_length_eq_zero hl
    exact ⟨_, run_copy_none w _ _ ty 5 _ _ _ _ _ _ Try.underlying40 infoU8s (by simp)⟩
  · obtain ⟨b, o', rfl, _, hc⟩ := hr.cells hm
    obtain rfl := hq hm
    exact ⟨_, run_copy_cells w _ _ ty 5 g q m cp _ m cb (iv .u8 l) Try.underlying40 infoU8s (by rw [iv_len, hl]; simp) (fun j v hj => by
        rw [Addr.add_lit, hc j (by have := (List.getElem?_eq_some_iff.1 hj).1; rw [iv_len] at this; omega), hj])
      (fun j hj => hB.some_ (by rw [iv_len] at hj; omega)) (fun j _ => hB.thawed _) iv_one⟩

noncomputable def wrB (A : List (Int × Int)) (bs : List Int) (x y off : Int) (l : List Int) : List Int := if bytC A x y off l.length = 0 then pt bs (x + off).toNat l else bs
theorem write_any (c : Nat → Nat) (a p g : Nat) (F A : List (Int × Int)) (bs : List Int) (x y off : Int) (Ab : Option Addr) (nb cb : Nat) (l : List Int) (w : World) (h : Arn w c a p g F A bs) (hv : Gd bs.length F A) (hA : A.length ≤ 900) (hr : Row w w.heap.size Ab nb cb (iv .u8 l)) (hf : Fit .u8 l) :
    Calls Try.prog 22 #[.pointer (some ⟨a, 0, none⟩), .agg #[.int .i64 x, .int .i64 y], .int .i64 off, .slice Ab nb cb] w (PrE w c a p g F A (wrB A bs x y off l) (.int .i64 (bytC A x y off nb))) := by
  have hb0 : Below w.heap.size w (w.alloc (.cells #[.int .i64 x, .int .i64 y] 31)) := (Below.refl _ _).alloc (Nat.le_refl _) _
  have HBX := Lib.hid (Box.new (w := w) (x := x) (y := y))
  have HB0 := Lib.hid hb0
  have HR := Lib.hid (h.go hb0)
  have HRW := Lib.hid (hr.go hb0)
  have HF := Lib.hid hf
  have HV := Lib.hid hv
  have hsm := h.small
  have hcap := hr.cap
  have hmax := hr.small
  have hll : l.length = nb := by have := hr.len; rwa [iv_len] at this
  have HLL := Lib.hid hll
  unfold maxLen at hmax
  have HIN := Lib.hid (fun hm => in_bd hv (x := x) (y := y) hm)
  have hcg := h.cg
  clear h hb0 hv hr hf hll
  go_enter Try.func22, Try.ntmps22
  go_wp2
  generalize w.alloc (.cells #[.int .i64 x, .int .i64 y] 31) = w1 at *
  have a1 : ∀ m : Later w1, m.val.cell? ⟨w.heap.size, 0, none⟩ = some (.int .i64 x) := fun m => later_old m HBX.out.cell0
  have a2 : ∀ m : Later w1, m.val.cell? ⟨w.heap.size, 1, none⟩ = some (.int .i64 y) := fun m => later_old m HBX.out.cell1
  have H1 := Lib.hid (fun m : Later w1 => parts_any m.val (HR.out.go m.2))
  have H2 := Lib.hid (fun m : Later w1 => has_alc c 1 p F A _ x y m.val (HR.out.go m.2).al HV.out (by omega))
  generalize hd : decide ((x, y) ∈ A) = d at *
  have HD := Lib.hid hd
  clear hd
  refine wp_region_later (by kernel_rfl) (by kernel_rfl) ?_
  repeat (go_big_quiet_step (first | (go_at_call 40; exact Calls.later (H1.out _)) | (go_at_call 41; exact Calls.later (H2.out _))))
  refine wpQuiet_nil ?_
  rintro w4 ⟨⟨_, hq⟩, rfl⟩
  have HB4 := Lib.hid (Below.then HB0.out hq (Nat.le_refl _))
  have HE4 := Lib.hid (HBX.out.go hq)
  have HR4 := Lib.hid (HR.out.go hq)
  have HRW4 := Lib.hid (HRW.out.go hq)
  have g0 := HE4.out.cell0
  have g1 := HE4.out.cell1
  clear hq H1 H2 HB0 HBX HR a1 a2 HRW
  cases d with
  | false =>
    have HC : Hid (bytC A x y off nb = 6) := Lib.hid (if_neg (of_decide_eq_false HD.out))
    have HL : Hid (wrB A bs x y off l = bs) := Lib.hid (by unfold wrB; rw [HLL.out, HC.out, if_neg (by omega)])
    go_wp2
    go_ret
    rw [HC.out, HL.out]
    exact prE HR4.out (KS.ofBelow HB4.out) (fun _ _ => rfl)
  | true =>
    have HM := Lib.hid (of_decide_eq_true HD.out)
    obtain ⟨x0, y0, xy, y1⟩ := HIN.out HM.out
    have HW := Lib.hid (within_any x y off nb w4 ⟨by omega, y1⟩ (by omega))
    have HC : Hid (bytC A x y off nb = if wi off nb y = true then 0 else 7) := Lib.hid (by unfold bytC; rw [if_pos HM.out, if_neg (by omega)])
    have HWI := Lib.hid (fun h : wi off nb y = true => wi_is h)
    generalize wi off nb y = b at *
    cases b with
    | false =>
      have HL : Hid (wrB A bs x y off l = bs) := Lib.hid (by unfold wrB; rw [HLL.out, HC.out]; rfl)
      go_wp2_with fail
      refine HW.out.mono ?_
      rintro e w5 ⟨rfl, hb⟩
      have HB5 := Lib.hid (Below.then HB4.out hb (Nat.le_refl _))
      have HR5 := Lib.hid (HR4.out.go hb)
      clear hb HW
      go_wp2
      go_ret
      rw [HC.out, HL.out]
      exact prE HR5.out (KS.ofBelow HB5.out) (fun _ _ => rfl)
    | true =>
      obtain ⟨o0, o1⟩ := HWI.out rfl
      have HL : Hid (wrB A bs x y off l = pt bs (x + off).toNat l) := Lib.hid (by unfold wrB; rw [HLL.out, HC.out]; rfl)
      go_wp2_with fail
      refine HW.out.mono ?_
      rintro e w5 ⟨rfl, hb⟩
      have HB5 := Lib.hid (Below.then HB4.out hb (Nat.le_refl _))
      have HE5 := Lib.hid (HE4.out.go hb)
      have HR5 := Lib.hid (HR4.out.go hb)
      have HRW5 := Lib.hid (HRW4.out.go hb)
      have k0 := HE5.out.cell0
      have k1 := HE5.out.cell1
      clear hb HW HB4 HE4 HR4 g0 g1 HRW4
      go_wp2_with fail
      refine (view_any x y off nb w5 HR5.out x0 o0 (by omega) (by omega)).mono ?_
      rintro e w6 ⟨q, rfl, hq, hb⟩
      have HR6 := Lib.hid (HR5.out.go hb)
      have HB6 := Lib.hid (Below.then HB5.out hb (Nat.le_refl _))
      have HRW6 := Lib.hid (HRW5.out.go hb)
      rw [show (nb : Int).toNat = nb by omega] at hq ⊢
      have ho : (x + off).toNat + nb ≤ bs.length := by omega
      generalize (x + off).toNat = o at *
      generalize bs.length - o = cp at *
      obtain ⟨r, hrun⟩ := copy_run w6 3 g q o nb cp cb Ab bs l HR6.out.byt hq ho HRW6.out
      have HBY := Lib.hid (HR6.out.byt.sets (l := l) (o := o))
      have HK : Hid (Kept c 4 w6 (w6.setCells g o (iv .u8 l))) := Lib.hid (Kept.sets hcg)
      clear hb HR5 HB5 HE5 k0 k1 hq HRW5
      generalize w6.setCells g o (iv .u8 l) = w7 at *
      go_wp2
      go_ret
      rw [HC.out, HL.out]
      exact prE (HR6.out.wrote HK.out HBY.out pt_len (pt_fit HR6.out.fit HF.out)) (KS.of ((Kept.ofBelow HB6.out).trans HK.out) (.inr rfl)) (fun _ _ => rfl)
end Go.Proofs.Ytfchccgajcjbbaa
