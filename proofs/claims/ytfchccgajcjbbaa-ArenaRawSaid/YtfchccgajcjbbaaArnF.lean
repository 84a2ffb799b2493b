/-
  Contracts of the arena's methods Free and Alloc, and of New. Conditions: at most nine hundred allocated extents.
-/
import Derived.Test.YtfchccgajcjbbaaArnC
import Derived.Test.YtfchccgajcjbbaaNdlF
namespace Go.Proofs.Ytfchccgajcjbbaa
open Go.ChangeShapes Go.WideShapes Go.ChangeAt Go.RowKit
set_option maxHeartbeats 8000000
set_option maxRecDepth 100000

theorem Arn.alcd {w w' : World} {c c' : Nat → Nat} {a p g : Nat} {F A F' A' : List (Int × Int)} {bs : List Int} (h : Arn w c a p g F A bs) (hk : Kept c 1 w w') (hc : ∀ x, x < w.heap.size → c' x = c x) (hal : Alc w' c' 1 p F' A') : Arn w' c' a p g F' A' bs :=
  ⟨(hk.block a h.lt (by rw [h.ca]; omega)).trans h.blk, hal, h.byt.kept hk (by rw [h.cg]; omega), (hc a h.lt).trans h.ca, (hc g h.byt.lt).trans h.cg, h.fit, h.small⟩

/-- What Free makes of the bytes. -/
noncomputable def frB (A : List (Int × Int)) (bs : List Int) (x y : Int) : List Int := if (x, y) ∈ A then pt bs x.toNat (List.replicate y.toNat 0) else bs
theorem fit_zero {n : Nat} : Fit .u8 (List.replicate n 0) := fun x hx => by rw [List.eq_of_mem_replicate hx]; decide
theorem frB_fit {A : List (Int × Int)} {bs : List Int} {x y : Int} (h : Fit .u8 bs) : Fit .u8 (frB A bs x y) := by
  unfold frB
  split
  · exact pt_fit h fit_zero
  · exact h
theorem frB_len {A : List (Int × Int)} {bs : List Int} {x y : Int} : (frB A bs x y).length = bs.length := by
  unfold frB
  split
  · exact pt_len
  · rfl
/-- What a method says that may allocate or free. -/
def AfE (w : World) (c : Nat → Nat) (a p g : Nat) (F A U' : List (Int × Int)) (bs' : List Int) (r : Value) (e : Ending) (w' : World) : Prop :=
  ∃ F' A', PrE w c a p g F' A' bs' r e w' ∧ Gd bs'.length F' A' ∧ A'.Perm U' ∧ ∀ t, Mem F' t → Mem F t ∨ (Mem A t ∧ ¬ Mem A' t)
theorem freeA_no (c : Nat → Nat) (a p g : Nat) (F A U : List (Int × Int)) (bs : List Int) (x y : Int) (w : World) (h : Arn w c a p g F A bs) (hv : Gd bs.length F A) (hA : A.length ≤ 900) (hp : A.Perm U) (hm : (x, y) ∉ A) :
    Calls Try.prog 25 #[.pointer (some ⟨a, 0, none⟩), .agg #[.int .i64 x, .int .i64 y]] w (AfE w c a p g F A (wo U (x, y)) (frB A bs x y) (.int .i64 (if (x, y) ∈ A then 0 else 6))) := by
  have hb0 : Below w.heap.size w (w.alloc (.cells #[.int .i64 x, .int .i64 y] 31)) := (Below.refl _ _).alloc (Nat.le_refl _) _
  have HBX := Lib.hid (Box.new (w := w) (x := x) (y := y))
  have HB0 := Lib.hid hb0
  have HR := Lib.hid (h.go hb0)
  have HV := Lib.hid hv
  have HB : Hid (frB A bs x y = bs) := Lib.hid (if_neg hm)
  rw [if_neg hm, HB.out, wo_same (fun hu => hm (hp.mem_iff.2 hu))]
  have HP := Lib.hid hp
  have HM := Lib.hid hm
  clear h hb0 hv hp hm
  go_enter Try.func25, Try.ntmps25
  go_wp2
  generalize w.alloc (.cells #[.int .i64 x, .int .i64 y] 31) = w1 at *
  have a1 : ∀ m : Later w1, m.val.cell? ⟨w.heap.size, 0, none⟩ = some (.int .i64 x) := fun m => later_old m HBX.out.cell0
  have a2 : ∀ m : Later w1, m.val.cell? ⟨w.heap.size, 1, none⟩ = some (.int .i64 y) := fun m => later_old m HBX.out.cell1
  have H1 := Lib.hid (fun m : Later w1 => parts_any m.val (HR.out.go m.2))
  have H2 := Lib.hid (fun m : Later w1 => free_no c 1 p F A _ x y m.val (HR.out.go m.2).al HV.out (by omega) HM.out)
  refine wp_region_later (by kernel_rfl) (by kernel_rfl) ?_
  repeat (go_big_quiet_step (first | (go_at_call 40; exact Calls.later (H1.out _)) | (go_at_call 48; exact Calls.later (H2.out _))))
  refine wpQuiet_nil ?_
  rintro w4 ⟨⟨_, hq⟩, rfl⟩
  have HB4 := Lib.hid (Below.then HB0.out hq (Nat.le_refl _))
  have HR4 := Lib.hid (HR.out.go hq)
  clear hq H1 H2 HB0 HBX HR a1 a2
  go_wp2
  go_ret
  exact ⟨F, A, prE HR4.out (KS.ofBelow HB4.out) (fun _ _ => rfl), HV.out, HP.out, fun t ht => .inl ht⟩
theorem clear_run (w : World) (ty : TypeId) (g q o m cp : Nat) (bs : List Int) (hB : Byt w g bs) (hm : 0 < m) (hq : q = o) (ho : o + m ≤ bs.length) :
    (Builtin.clear_ #[40] ty #[.slice (some ⟨g, q, none⟩) m cp]).run Try.prog w = .ok (.tuple #[]) (w.setCells g o (iv .u8 (List.replicate m 0))) := by
  subst hq
  have e : iv .u8 (List.replicate m 0) = List.replicate m (.int .u8 0) := by simp [iv]
  rw [e]
  exact Lib.run_clear_slice w _ 5 ty (.int .u8 0) Try.underlying40 (fun w => Try.zeroValue5 w) rfl rfl g q m cp hm (fun j hj => hB.some_ (by omega)) (fun j _ => hB.thawed _)
theorem freeA_yes (c : Nat → Nat) (a p g i : Nat) (F A U : List (Int × Int)) (bs : List Int) (x y : Int) (w : World) (h : Arn w c a p g F A bs) (hv : Gd bs.length F A) (hA : A.length ≤ 900) (hp : A.Perm U) (hi : A[i]? = some (x, y)) :
    Calls Try.prog 25 #[.pointer (some ⟨a, 0, none⟩), .agg #[.int .i64 x, .int .i64 y]] w (AfE w c a p g F A (wo U (x, y)) (frB A bs x y) (.int .i64 (if (x, y) ∈ A then 0 else 6))) := by
  have hm := List.mem_of_getElem? hi
  have hb0 : Below w.heap.size w (w.alloc (.cells #[.int .i64 x, .int .i64 y] 31)) := (Below.refl _ _).alloc (Nat.le_refl _) _
  have HBX := Lib.hid (Box.new (w := w) (x := x) (y := y))
  have HB0 := Lib.hid hb0
  have HR := Lib.hid ((h.recol (c' := rc c w.heap.size 9) (fun _ hx => rc_old hx)).go hb0)
  have HV := Lib.hid hv
  have HB : Hid (frB A bs x y = pt bs x.toNat (List.replicate y.toNat 0)) := Lib.hid (if_pos hm)
  have HL := Lib.hid (frB_len (A := A) (bs := bs) (x := x) (y := y))
  have HFT := Lib.hid (frB_fit (A := A) (x := x) (y := y) h.fit)
  rw [if_pos hm]
  obtain ⟨q1, q2, q3⟩ := gd_free hv hi
  have HG := Lib.hid q1
  have HFR := Lib.hid q2
  have HPM : Hid ((A.take i ++ A.drop (i + 1)).Perm (wo U (x, y))) := Lib.hid (perm_cut hv hp hi)
  have HI := Lib.hid hi
  obtain ⟨x0, y0, xy, y1⟩ := in_bd hv hm
  have hsm := h.small
  generalize frB A bs x y = bs' at *
  clear h hb0 hv hp hm hi q1 q2 q3
  go_enter Try.func25, Try.ntmps25
  go_wp2
  generalize w.alloc (.cells #[.int .i64 x, .int .i64 y] 31) = w1 at *
  have a1 : ∀ m : Later w1, m.val.cell? ⟨w.heap.size, 0, none⟩ = some (.int .i64 x) := fun m => later_old m HBX.out.cell0
  have a2 : ∀ m : Later w1, m.val.cell? ⟨w.heap.size, 1, none⟩ = some (.int .i64 y) := fun m => later_old m HBX.out.cell1
  have H1 := Lib.hid (fun m : Later w1 => parts_any m.val (HR.out.go m.2))
  refine wp_region_later_tail 3 (by kernel_rfl) (by kernel_rfl) ?_
  simp only [List.take_succ_cons, List.take_zero, List.drop_succ_cons, List.drop_zero]
  repeat (go_big_quiet_step (first | (go_at_call 40; exact Calls.later (H1.out _))))
  refine wpQuiet_nil ?_
  rintro w4 ⟨⟨_, hq⟩, rfl⟩
  have HB4 := Lib.hid (Below.then HB0.out hq (Nat.le_refl _))
  have HR4 := Lib.hid (HR.out.go hq)
  have HE4 := Lib.hid (HBX.out.go hq)
  clear hq H1 HB0 HBX HR a1 a2
  have hz4 : w.heap.size < w4.heap.size := HE4.out.lt
  go_wp2_with fail
  refine (free_yes (rc c w.heap.size 9) 1 p i F A _ x y w4 HR4.out.al HV.out (by omega) HI.out).mono ?_
  rintro e w5 ⟨rfl, hal, hk⟩
  have HR5 := Lib.hid (HR4.out.alcd hk (fun _ hx => rc_old hx) hal)
  have HE5 : Hid (Box w5 w.heap.size x y) := Lib.hid ((hk.block _ hz4 (by rw [rc_new (Nat.le_refl _)]; omega)).trans HE4.out)
  have HK5 : Hid (KS Sp c w w5) := Lib.hid ((KS.ofBelow (c := c) HB4.out).trans (KS.of hk (.inl rfl)) (fun _ hx => rc_old hx))
  have HCC : Hid (∀ z, z < w.heap.size → rc (rc c w.heap.size 9) w4.heap.size 1 z = c z) := Lib.hid (fun z hz => by rw [rc_old (by omega), rc_old hz])
  generalize rc (rc c w.heap.size 9) w4.heap.size 1 = c1 at *
  have g0 := HE5.out.cell0
  have g1 := HE5.out.cell1
  clear hal hk HR4 HB4 HE4
  go_wp2_with fail
  refine (view_any x y 0 y w5 HR5.out x0 (by omega) (by omega) (by omega)).mono ?_
  rintro e w6 ⟨q, rfl, hq, hb⟩
  have HR6 := Lib.hid (HR5.out.go hb)
  have HK6 : Hid (KS Sp c w w6) := Lib.hid (HK5.out.trans (KS.ofBelow (c := c) hb) (fun _ _ => rfl))
  rw [show (x + 0).toNat = x.toNat by omega] at hq ⊢
  have hq' := hq (by omega)
  have hrun := fun ty => clear_run w6 ty g q x.toNat y.toNat (bs.length - x.toNat) bs HR6.out.byt (by omega) hq' (by omega)
  have HBT := Lib.hid (HR6.out.byt.sets (l := List.replicate y.toNat 0) (o := x.toNat))
  rw [← HB.out] at HBT
  have HK : Hid (Kept c1 4 w6 (w6.setCells g x.toNat (iv .u8 (List.replicate y.toNat 0)))) := Lib.hid (Kept.sets HR6.out.cg)
  generalize w6.setCells g x.toNat (iv .u8 (List.replicate y.toNat 0)) = w7 at *
  generalize x.toNat = o at *
  generalize y.toNat = N at *
  generalize bs.length - o = cp at *
  clear hb hq hq' HR5 HK5 HE5 g0 g1
  go_wp2
  go_ret
  refine ⟨_, _, prE (HR6.out.wrote HK.out HBT.out HL.out HFT.out) (HK6.out.trans (KS.of HK.out (.inr rfl)) HCC.out) HCC.out, by rw [HL.out]; exact HG.out, HPM.out, fun t ht => ?_⟩
  rcases (ins_mem HV.out.va y0 HFR.out t).1 ht with h | h
  · exact .inl h
  · refine .inr ⟨⟨_, List.mem_of_getElem? HI.out, h⟩, fun hn => ?_⟩
    exact ((HG.out.fm t).1 ht).2 hn

theorem sz_ge {n : Int} (h : erR n = 0) : 0 < szR n := by
  have : 1 ≤ n ∧ n ≤ 65536 := by
    unfold erR at h
    split at h
    · omega
    · split at h
      · omega
      · omega
  rw [(mid_R this.1 this.2).2.1]
  exact sz_pos
theorem chR_ok {F : List (Int × Int)} {n : Int} (h : (chR F n).2 = 0) : ∃ x s z, chR F n = ((x, s), 0) ∧ szR n = s ∧ erR n = 0 ∧ plR F s = (x, true) ∧ best s F = some z ∧ z.1 = x ∧ 0 < s := by
  unfold chR at h ⊢
  by_cases he : erR n = 0
  · rw [if_pos he] at h ⊢
    cases hb : best (szR n) F with
    | none => rw [hb] at h; simp at h
    | some z => exact ⟨z.1, szR n, z, rfl, rfl, he, by unfold plR; rw [hb], hb, rfl, sz_ge he⟩
  · rw [if_neg he] at h
    exact absurd h he
theorem chR_bad {F : List (Int × Int)} {n : Int} (h : (chR F n).2 ≠ 0) : (chR F n).1 = (0, 0) := by
  unfold chR at h ⊢
  by_cases he : erR n = 0
  · rw [if_pos he] at h ⊢
    cases hb : best (szR n) F with
    | none => rfl
    | some z => rw [hb] at h; exact absurd rfl h
  · rw [if_neg he]

/-- The list behind an allocation. -/
def alU (U : List (Int × Int)) (r : (Int × Int) × Int) : List (Int × Int) := if r.2 = 0 then U ++ [r.1] else U
theorem alU_len {U : List (Int × Int)} {r : (Int × Int) × Int} : (alU U r).length ≤ U.length + 1 := by
  unfold alU
  split
  · simp
  · omega
def rV (r : (Int × Int) × Int) : Value := .tuple #[.agg #[.int .i64 r.1.1, .int .i64 r.1.2], .int .i64 r.2]

theorem allocA_no (c : Nat → Nat) (a p g : Nat) (F A : List (Int × Int)) (bs : List Int) (n r : Int) (w : World) (h : Arn w c a p g F A bs) (hF : F.length ≤ 1000000) (hr : (chR F n).2 = r) (hr0 : r ≠ 0) :
    Calls Try.prog 31 #[.pointer (some ⟨a, 0, none⟩), .int .i64 n] w (PrE w c a p g F A bs (rV ((0, 0), r))) := by
  have hb0 : Below w.heap.size w (w.alloc (.cells #[.int .i64 0, .int .i64 0] 31)) := (Below.refl _ _).alloc (Nat.le_refl _) _
  have HBX := Lib.hid (Box.new (w := w) (x := 0) (y := 0))
  have HB0 := Lib.hid hb0
  have HR := Lib.hid (h.go hb0)
  have HH := Lib.hid h
  have HN := Lib.hid (fun W (hW : Alc W c 1 p F A) => alloc_no c 1 p F A n W hW hF (by rw [hr]; exact hr0))
  rw [hr] at HN
  clear h hb0 hr
  go_enter Try.func31, Try.ntmps31
  go_wp2_with fail
  generalize w.alloc (.cells #[.int .i64 0, .int .i64 0] 31) = w1 at *
  refine (parts_any w1 HR.out).mono ?_
  rintro e w2 ⟨rfl, hb⟩
  have HR2 := Lib.hid (HR.out.go hb)
  have HB2 := Lib.hid (Below.then HB0.out hb (Nat.le_refl _))
  have HBX2 := Lib.hid (HBX.out.go hb)
  clear hb HR HB0 HBX
  go_wp2_with fail
  refine (HN.out w2 HR2.out.al).mono ?_
  rintro e w3 ⟨rfl, hb⟩
  have HR3 := Lib.hid (HR2.out.go hb)
  have HB3 := Lib.hid (Below.then HB2.out hb (Nat.le_refl _))
  have HBX3 := Lib.hid (HBX2.out.go hb)
  clear hb HR2 HB2 HBX2 HN
  have g0 := HBX3.out.cell0
  have g1 := HBX3.out.cell1
  have g2 := HBX3.out.fr0
  have g3 := HBX3.out.fr1
  go_wp2
  have hbs : Below w.heap.size w ((w3.setCell ⟨w.heap.size, 0, none⟩ (.int .i64 0)).setCell ⟨w.heap.size, 1, none⟩ (.int .i64 0)) := (HB3.out.setCell (p := ⟨w.heap.size, 0, none⟩) (Nat.le_refl _) (.int .i64 0)).setCell (p := ⟨w.heap.size, 1, none⟩) (Nat.le_refl _) (.int .i64 0)
  have HBX4 := Lib.hid (HBX3.out.set 0 0)
  generalize (w3.setCell ⟨w.heap.size, 0, none⟩ (.int .i64 0)).setCell ⟨w.heap.size, 1, none⟩ (.int .i64 0) = w4 at *
  have k0 := HBX4.out.cell0
  have k1 := HBX4.out.cell1
  exact bodyPost_ret (v := rV ((0, 0), r)) (by simp [results, rV, Try.results31, go_sem, k0, k1]) rfl (prE (HH.out.go hbs) (KS.ofBelow hbs) (fun _ _ => rfl))
theorem KS.set {S : Nat → Prop} {c : Nat → Nat} {w w' : World} (h : KS S c w w') {b o : Nat} (hb : w.heap.size ≤ b) (u : Value) : KS S c w (w'.setCell ⟨b, o, none⟩ u) :=
  ⟨h.os, h.tape, h.output, by simpa [World.setCell] using h.size, fun g hg hs => (Below.heap_setCell w' ⟨b, o, none⟩ u g (by simp only; omega)).trans (h.block g hg hs)⟩
theorem allocA_yes (c : Nat → Nat) (a p g i : Nat) (F A : List (Int × Int)) (bs : List Int) (n x s : Int) (w : World) (h : Arn w c a p g F A bs) (hv : Gd bs.length F A) (hA : A.length ≤ 900) (hr : chR F n = ((x, s), 0)) (hh : Has F (x, s)) (hp : Pr x s) (hi : Lb A x i) :
    Calls Try.prog 31 #[.pointer (some ⟨a, 0, none⟩), .int .i64 n] w (PrE w c a p g (rem F (x, s)) (A.take i ++ (x, s) :: A.drop i) bs (rV ((x, s), 0))) := by
  have hb0 : Below w.heap.size w (w.alloc (.cells #[.int .i64 0, .int .i64 0] 31)) := (Below.refl _ _).alloc (Nat.le_refl _) _
  have HBX := Lib.hid (Box.new (w := w) (x := 0) (y := 0))
  have HB0 := Lib.hid hb0
  have HR := Lib.hid ((h.recol (c' := rc c w.heap.size 9) (fun _ hx => rc_old hx)).go hb0)
  have HN := Lib.hid (fun W (hW : Alc W (rc c w.heap.size 9) 1 p F A) => alloc_yes _ 1 p i F A _ n x s W hW hv hA hr hh hp hi)
  clear h hb0 hv hr hh hp hi
  go_enter Try.func31, Try.ntmps31
  go_wp2_with fail
  generalize w.alloc (.cells #[.int .i64 0, .int .i64 0] 31) = w1 at *
  refine (parts_any w1 HR.out).mono ?_
  rintro e w2 ⟨rfl, hb⟩
  have HR2 := Lib.hid (HR.out.go hb)
  have HB2 := Lib.hid (Below.then HB0.out hb (Nat.le_refl _))
  have HBX2 := Lib.hid (HBX.out.go hb)
  clear hb HR HB0 HBX
  have hz2 : w.heap.size < w2.heap.size := HBX2.out.lt
  go_wp2_with fail
  refine (HN.out w2 HR2.out.al).mono ?_
  rintro e w3 ⟨rfl, hal, hk⟩
  have HR3 := Lib.hid (HR2.out.alcd hk (fun _ hx => rc_old hx) hal)
  have HBX3 : Hid (Box w3 w.heap.size 0 0) := Lib.hid ((hk.block _ hz2 (by rw [rc_new (Nat.le_refl _)]; omega)).trans HBX2.out)
  have HK3 : Hid (KS Sp c w w3) := Lib.hid ((KS.ofBelow (c := c) HB2.out).trans (KS.of hk (.inl rfl)) (fun _ hx => rc_old hx))
  have HCC : Hid ((∀ z, z < w.heap.size → rc (rc c w.heap.size 9) w2.heap.size 1 z = c z) ∧ rc (rc c w.heap.size 9) w2.heap.size 1 w.heap.size = 9) := Lib.hid ⟨fun z hz => by rw [rc_old (by omega), rc_old hz], by rw [rc_old hz2, rc_new (Nat.le_refl _)]⟩
  generalize rc (rc c w.heap.size 9) w2.heap.size 1 = c1 at *
  clear hal hk HR2 HB2 HBX2 HN
  have g0 := HBX3.out.cell0
  have g1 := HBX3.out.cell1
  have g2 := HBX3.out.fr0
  have g3 := HBX3.out.fr1
  go_wp2
  have hkk : Kept c1 9 w3 ((w3.setCell ⟨w.heap.size, 0, none⟩ (.int .i64 x)).setCell ⟨w.heap.size, 1, none⟩ (.int .i64 s)) := (Kept.refl.own HCC.out.2 _).own HCC.out.2 _
  have hks : KS Sp c w ((w3.setCell ⟨w.heap.size, 0, none⟩ (.int .i64 x)).setCell ⟨w.heap.size, 1, none⟩ (.int .i64 s)) := (HK3.out.set (Nat.le_refl _) _).set (Nat.le_refl _) _
  have HBX4 := Lib.hid (HBX3.out.set x s)
  generalize (w3.setCell ⟨w.heap.size, 0, none⟩ (.int .i64 x)).setCell ⟨w.heap.size, 1, none⟩ (.int .i64 s) = w4 at *
  have k0 := HBX4.out.cell0
  have k1 := HBX4.out.cell1
  exact bodyPost_ret (v := rV ((x, s), 0)) (by simp [results, rV, Try.results31, go_sem, k0, k1]) rfl (prE (HR3.out.kept hkk (by omega) (by omega) (by omega) (fun _ _ => rfl)) hks HCC.out.1)
/-- An allocation, whatever comes of it. -/
theorem allocA_any (c : Nat → Nat) (a p g : Nat) (F A U : List (Int × Int)) (bs : List Int) (n : Int) (w : World) (h : Arn w c a p g F A bs) (hv : Gd bs.length F A) (hA : A.length ≤ 900) (hp : A.Perm U) :
    Calls Try.prog 31 #[.pointer (some ⟨a, 0, none⟩), .int .i64 n] w (AfE w c a p g F A (alU U (chR F n)) bs (rV (chR F n))) := by
  by_cases hr : (chR F n).2 = 0
  · obtain ⟨x, s, z, h1, h2, h3, h4, h5, rfl, h7⟩ := chR_ok hr
    obtain ⟨i, hi⟩ := lb_ex hv z.1
    obtain ⟨g1, g2, g3⟩ := gd_alloc hv h5 h7 hi
    refine (allocA_yes c a p g i F A bs n z.1 s w h hv hA h1 g2 g3 hi).mono fun e w' he => ?_
    rw [h1]
    refine ⟨_, _, he, g1, ?_, fun t ht => .inl ((rem_mem h7 hv.va g2 t).1 ht).1⟩
    unfold alU
    rw [if_pos rfl]
    exact perm_put hp
  · refine (allocA_no c a p g F A bs n _ w h (by have := gd_flen hv; omega) rfl hr).mono fun e w' he => ?_
    have h1 := chR_bad hr
    generalize chR F n = r at *
    obtain ⟨r1, r2⟩ := r
    simp only at h1 hr he
    subst h1
    refine ⟨_, _, he, hv, ?_, fun t ht => .inl ht⟩
    unfold alU
    rw [if_neg hr]
    exact hp
theorem freeA_any (c : Nat → Nat) (a p g : Nat) (F A U : List (Int × Int)) (bs : List Int) (x y : Int) (w : World) (h : Arn w c a p g F A bs) (hv : Gd bs.length F A) (hA : A.length ≤ 900) (hp : A.Perm U) :
    Calls Try.prog 25 #[.pointer (some ⟨a, 0, none⟩), .agg #[.int .i64 x, .int .i64 y]] w (AfE w c a p g F A (wo U (x, y)) (frB A bs x y) (.int .i64 (if (x, y) ∈ A then 0 else 6))) := by
  by_cases hm : (x, y) ∈ A
  · obtain ⟨i, hi⟩ := List.mem_iff_getElem?.1 hm
    exact freeA_yes c a p g i F A U bs x y w h hv hA hp hi
  · exact freeA_no c a p g F A U bs x y w h hv hA hp hm

/-- A row of bytes that was just made. -/
theorem byt_made {w : World} {base g n : Nat} (h : w.ownsRow base 5 1 (.slice (some ⟨g, 0, none⟩) n n) n (madeCells (Value.int .u8 0).cells (n * 1)).toList) : Byt w g (List.replicate n 0) := by
  rcases h.2 with ⟨h0, _⟩ | ⟨g', cap, cur, e, _, hg, _, _, hs, ht⟩
  · cases h0
  · cases e
    rw [Nat.mul_one, List.take_of_length_le (by simp; omega), show (Value.int .u8 0).cells = #[.int .u8 0] from rfl, toList_madeCells_one] at ht
    unfold Byt
    rw [hg, show iv .u8 (List.replicate n 0) = List.replicate n (.int .u8 0) by simp [iv], ← ht]
/-- The colours behind a call that made an arena. -/
def nc (c : Nat → Nat) (s e a g : Nat) (ka kg k : Nat) : Nat → Nat := fun x => if x < s then c x else if x = a then ka else if x = g then kg else if x < e then k else 9
theorem nc_old {c : Nat → Nat} {s e a g ka kg k x : Nat} (h : x < s) : nc c s e a g ka kg k x = c x := if_pos h
theorem nc_new {c : Nat → Nat} {s e a g ka kg k x : Nat} (hs : s ≤ e) (ha : a < e) (hg : g < e) (h : e ≤ x) : nc c s e a g ka kg k x = 9 := by
  unfold nc
  rw [if_neg (by omega), if_neg (by omega), if_neg (by omega), if_neg (by omega)]
/-- What New says where it makes an arena. -/
def NewE (w : World) (c : Nat → Nat) (n : Nat) (e : Ending) (w' : World) : Prop :=
  ∃ c' a p g, e = .returned (.tuple #[.pointer (some ⟨a, 0, none⟩), .int .i64 0]) ∧ Arn w' c' a p g (cmp 0 [] n) [] (List.replicate n 0) ∧ Below w.heap.size w w' ∧ (∀ x, x < w.heap.size → c' x = c x) ∧ ∀ x, w'.heap.size ≤ x → c' x = 9
theorem newA_ok (c : Nat → Nat) (n : Nat) (w : World) (h1 : n ≤ 1048576) :
    Calls Try.prog 24 #[.int .i64 n] w (NewE w c n) := by
  obtain ⟨i0, hi, hz0, hz1, hz2⟩ := infoU8
  have H := Lib.hid (new_ok n w (by omega) (by omega))
  go_enter Try.func24, Try.ntmps24
  go_wp2_with fail
  refine H.out.mono ?_
  rintro e w1 ⟨p, rfl, hp, hb, ha⟩
  have HB1 := Lib.hid hb
  have HA1 := Lib.hid ha
  clear hb ha H
  go_wp2_with (first
    | (at_make; refine wpList_make_full _ rfl _ _ 40 rfl w1.heap.size 5 i0 _ 1 Try.underlying40 hi hz0 hz1 _ _ _ _ n rfl rfl rfl rfl (by rw [hz2]; omega) (by unfold maxLen; omega) (Nat.le_refl _) ?_
       intro w2 hown hg
       have HB2 := Lib.hid ((Below.refl _ _).grown hg (Nat.le_refl _) (by simp) : Below w1.heap.size w1 w2)
       have HO2 := Lib.hid (byt_made hown)
       clear hown hg))
  go_ret2
  have hg : w1.heap.size < w2.heap.size := HO2.out.lt
  have hw1 : w.heap.size ≤ w1.heap.size := HB1.out.size
  have hb3 : Below w2.heap.size w2 (w2.alloc (.cells #[.pointer (some ⟨p, 0, none⟩), .slice (some ⟨w1.heap.size, 0, none⟩) n n] 56)) := (Below.refl _ _).alloc (Nat.le_refl _) _
  have hz3 : (w2.alloc (.cells #[.pointer (some ⟨p, 0, none⟩), .slice (some ⟨w1.heap.size, 0, none⟩) n n] 56)).heap.size = w2.heap.size + 1 := by simp
  have hnew := heap_alloc_new w2 (.cells #[.pointer (some ⟨p, 0, none⟩), .slice (some ⟨w1.heap.size, 0, none⟩) n n] 56)
  generalize w2.alloc (.cells #[.pointer (some ⟨p, 0, none⟩), .slice (some ⟨w1.heap.size, 0, none⟩) n n] 56) = w3 at *
  have hal : Alc w1 (nc c w.heap.size w3.heap.size w2.heap.size w1.heap.size 3 4 1) 1 p (cmp 0 [] n) [] := (HA1.out c 1).kept (j := 7) Kept.refl (by omega) (fun x hx => by
    by_cases h : x < w.heap.size
    · rw [nc_old h, rc_old h]
    · rw [rc_new (by omega)]
      unfold nc
      rw [if_neg h, if_neg (by omega), if_neg (by omega), if_pos (by omega)])
  refine ⟨nc c w.heap.size w3.heap.size w2.heap.size w1.heap.size 3 4 1, w2.heap.size, p, w1.heap.size, rfl, ⟨?_, (hal.go HB2.out).go hb3, HO2.out.go hb3, ?_, ?_, fit_zero, by simpa using h1⟩, Below.then (Below.then HB1.out HB2.out (Nat.le_refl _)) hb3 (Nat.le_refl _), fun x hx => nc_old hx, fun x hx => nc_new (by omega) (by omega) (by omega) hx⟩
  · rw [List.length_replicate]; exact hnew
  · unfold nc
    rw [if_neg (by omega), if_pos rfl]
  · unfold nc
    rw [if_neg (by omega), if_neg (by omega), if_pos rfl]
theorem newA_bad (n : Int) (w : World) (h1 : ¬ (0 ≤ n ∧ n ≤ 1048576)) :
    Calls Try.prog 24 #[.int .i64 n] w fun e w' => e = .returned (.tuple #[.pointer none, .int .i64 1]) ∧ Below w.heap.size w w' := by
  have H := Lib.hid (new_bad n w h1)
  clear h1
  go_enter Try.func24, Try.ntmps24
  go_wp2_with fail
  refine H.out.mono ?_
  rintro e w1 ⟨rfl, hb⟩
  have HB1 := Lib.hid hb
  clear hb H
  go_wp2
  go_ret2
  exact ⟨rfl, HB1.out⟩
end Go.Proofs.Ytfchccgajcjbbaa
