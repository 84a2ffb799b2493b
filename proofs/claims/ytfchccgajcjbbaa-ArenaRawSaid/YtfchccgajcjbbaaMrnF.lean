/-
  Contracts of the model's Free and NewArena, and of its Alloc. Conditions: at most nine hundred allocated extents.
-/
import Derived.Test.YtfchccgajcjbbaaMrnW
import Derived.Test.YtfchccgajcjbbaaNdlF
namespace Go.Proofs.Ytfchccgajcjbbaa
open Go.ChangeShapes Go.WideShapes Go.ChangeAt Go.RowKit
set_option maxHeartbeats 4000000
set_option maxRecDepth 100000

theorem freeM_no (c : Nat → Nat) (q g : Nat) (U : List (Int × Int)) (bs : List Int) (x y : Int) (w : World) (h : Mrn w c q g U bs) (hU : U.length ≤ 900) (hm : (x, y) ∉ U) :
    Calls Try.prog 55 #[.pointer (some ⟨q, 0, none⟩), .agg #[.int .i64 x, .int .i64 y]] w (MoE w c q g (wo U (x, y)) (frB U bs x y) (.int .i64 (if (x, y) ∈ U then 0 else 6))) := by
  have hb0 : Below w.heap.size w (w.alloc (.cells #[.int .i64 x, .int .i64 y] 31)) := (Below.refl _ _).alloc (Nat.le_refl _) _
  have HBX := Lib.hid (Box.new (w := w) (x := x) (y := y))
  have HB0 := Lib.hid hb0
  have HR := Lib.hid (h.go hb0)
  have hqlt := h.lt
  have HB : Hid (frB U bs x y = bs) := Lib.hid (if_neg hm)
  rw [if_neg hm, HB.out, wo_same hm]
  have HM := Lib.hid hm
  clear h hb0 hm
  go_enter Try.func55, Try.ntmps55
  go_wp2
  generalize w.alloc (.cells #[.int .i64 x, .int .i64 y] 31) = w1 at *
  have a1 : ∀ m : Later w1, m.val.cell? ⟨w.heap.size, 0, none⟩ = some (.int .i64 x) := fun m => later_old m HBX.out.cell0
  have a2 : ∀ m : Later w1, m.val.cell? ⟨w.heap.size, 1, none⟩ = some (.int .i64 y) := fun m => later_old m HBX.out.cell1
  have H2 : Hid (∀ m : Later w1, Calls Try.prog 68 #[.pointer (some ⟨q, 0, none⟩), .agg #[.int .i64 x, .int .i64 y]] m.val fun e w' => e = .returned (.int .i64 6) ∧ Below m.val.heap.size m.val w') :=
    Lib.hid fun m => (freeR_any c 2 q _ x y U m.val (HR.out.go m.2).mo hU).mono fun e w' h => h.elim (fun h => h.2) (fun h => absurd h.1 HM.out)
  refine wp_region_later (by kernel_rfl) (by kernel_rfl) ?_
  repeat (go_big_quiet_step (first | (go_at_call 68; exact Calls.later (H2.out _))))
  refine wpQuiet_nil ?_
  rintro w4 ⟨⟨_, hq⟩, rfl⟩
  have HB4 := Lib.hid (Below.then HB0.out hq (Nat.le_refl _))
  have HR4 := Lib.hid (HR.out.go hq)
  clear hq H2 HB0 HBX HR a1 a2
  go_wp2
  go_ret
  exact moE HR4.out (KS.ofBelow HB4.out) (fun _ _ => rfl)
theorem freeM_yes (c : Nat → Nat) (q g : Nat) (U : List (Int × Int)) (bs : List Int) (x y : Int) (w : World) (h : Mrn w c q g U bs) (hi : Ins bs.length U) (hU : U.length ≤ 900) (hm : (x, y) ∈ U) :
    Calls Try.prog 55 #[.pointer (some ⟨q, 0, none⟩), .agg #[.int .i64 x, .int .i64 y]] w (MoE w c q g (wo U (x, y)) (frB U bs x y) (.int .i64 (if (x, y) ∈ U then 0 else 6))) := by
  have hb0 : Below w.heap.size w (w.alloc (.cells #[.int .i64 x, .int .i64 y] 31)) := (Below.refl _ _).alloc (Nat.le_refl _) _
  have HBX := Lib.hid (Box.new (w := w) (x := x) (y := y))
  have HB0 := Lib.hid hb0
  have HR := Lib.hid ((h.recol (c' := rc c w.heap.size 9) (fun _ hx => rc_old hx)).go hb0)
  have hqlt := h.lt
  have hsm := h.small
  obtain ⟨x0, y0, xy, y1⟩ := hi x y hm
  obtain ⟨X, rfl⟩ := Int.eq_ofNat_of_zero_le x0
  obtain ⟨Y, rfl⟩ := Int.eq_ofNat_of_zero_le (Int.le_of_lt y0)
  have HB : Hid (frB U bs X Y = pt bs X (List.replicate Y 0)) := Lib.hid (if_pos hm)
  rw [if_pos hm, HB.out]
  have HM := Lib.hid hm
  have HCA : Hid ((∀ z, z < w.heap.size → rc c w.heap.size 9 z = c z) ∧ rc c w.heap.size 9 w.heap.size = 9) := Lib.hid ⟨fun z hz => rc_old hz, rc_new (Nat.le_refl _)⟩
  generalize rc c w.heap.size 9 = c0 at *
  clear h hb0 hi hm
  go_enter Try.func55, Try.ntmps55
  go_wp2
  generalize w.alloc (.cells #[.int .i64 X, .int .i64 Y] 31) = w1 at *
  have a1 : ∀ m : Later w1, m.val.cell? ⟨w.heap.size, 0, none⟩ = some (.int .i64 X) := fun m => later_old m HBX.out.cell0
  have a2 : ∀ m : Later w1, m.val.cell? ⟨w.heap.size, 1, none⟩ = some (.int .i64 Y) := fun m => later_old m HBX.out.cell1
  refine wp_region_later_tail 4 (by kernel_rfl) (by kernel_rfl) ?_
  simp only [List.take_succ_cons, List.take_zero, List.drop_succ_cons, List.drop_zero]
  repeat (go_big_quiet_step (fail))
  refine wpQuiet_nil ?_
  rintro w4 ⟨⟨_, hq⟩, rfl⟩
  have HB4 := Lib.hid (Below.then HB0.out hq (Nat.le_refl _))
  have HR4 := Lib.hid (HR.out.go hq)
  have HE4 := Lib.hid (HBX.out.go hq)
  have hz4 : w.heap.size < w4.heap.size := HE4.out.lt
  clear hq HB0 HBX HR a1 a2
  go_wp2_with fail
  refine (freeR_any c0 2 q _ X Y U w4 HR4.out.mo hU).mono ?_
  intro e w5 hee
  rcases hee with ⟨hno, _⟩ | ⟨_, rfl, hmo, hk⟩
  · exact absurd HM.out hno
  have HR5 := Lib.hid (HR4.out.alcd hk (fun _ hx => rc_old hx) hmo)
  have HE5 : Hid (Box w5 w.heap.size X Y) := Lib.hid ((hk.block _ hz4 (by rw [HCA.out.2]; omega)).trans HE4.out)
  have HK5 : Hid (KS Sm c w w5) := Lib.hid ((KS.ofBelow (c := c) HB4.out).trans (KS.of hk (.inl rfl)) HCA.out.1)
  have HCC : Hid (∀ z, z < w.heap.size → rc c0 w4.heap.size 2 z = c z) := Lib.hid (fun z hz => by rw [rc_old (by omega), HCA.out.1 z hz])
  have hcw : rc c0 w4.heap.size 2 w.heap.size ≠ 5 := by rw [rc_old hz4, HCA.out.2]; omega
  generalize rc c0 w4.heap.size 2 = c1 at *
  have hcq : c1 q ≠ 5 := by
    obtain ⟨vu, _, _, h4, _⟩ := HR5.out.mo.ex
    omega
  have hcg := HR5.out.cg
  have hz5 : w.heap.size < w5.heap.size := HE5.out.lt
  have hq5 : q < w5.heap.size := HR5.out.lt
  have g0 := HE5.out.cell0
  have g1 := HE5.out.cell1
  clear hmo hk HR4 HB4 HE4
  go_wp2
  clear g0 g1
  go_loopw [6] (fun iv wr => ∃ (i : Nat), i ≤ Y ∧ iv = .int .i64 ((X : Int) + i) ∧ Hid (Byt wr g (pt bs X (List.replicate i 0)) ∧ Kept c1 5 w5 wr)) (fun iv _ => (X + Y) - (intOf iv).toNat)
  case atStart => exact ⟨0, by omega, by go_num, Lib.hid ⟨HR5.out.byt, Kept.refl⟩⟩
  case round =>
    obtain ⟨i, hi, rfl, hh⟩ := hrel
    have b0 : Hid (Box wr w.heap.size X Y) := Lib.hid ((hh.out.2.block _ hz5 hcw).trans HE5.out)
    have g0 := b0.out.cell0
    have g1 := b0.out.cell1
    by_cases hlt : i < Y
    · have hlt' : (X : Int) + (i : Int) < (X : Int) + (Y : Int) := by omega
      have hm2 : Hid (wr.heap[q]? = w5.heap[q]?) := Lib.hid (hh.out.2.block _ hq5 hcq)
      have k2 : wr.cell? ⟨q, 2, none⟩ = some (.slice (some ⟨g, 0, none⟩) bs.length bs.length) := by
        rw [← HR5.out.cell2]
        simp only [World.cell?, hm2.out]
      have e2 : ((X : Int) + (i : Int)).toNat = X + i := by omega
      have i0 : 0 ≤ (X : Int) + (i : Int) := by omega
      have i1 : (X : Int) + (i : Int) < bs.length := by omega
      have hc := hh.out.1.cell (i := X + i) (by rw [pt_len]; omega)
      have hf := hh.out.1.thawed (X + i)
      have HST : Hid (Byt (wr.setCell ⟨g, X + i, none⟩ (.int .u8 0)) g (pt bs X (List.replicate (i + 1) 0))) := Lib.hid (by
        have e3 : List.replicate (i + 1) (0 : Int) = List.replicate i 0 ++ [0] := List.replicate_succ'
        rw [e3, pt_snoc, List.length_replicate]
        exact hh.out.1.set _ _)
      have HKT : Hid (Kept c1 5 w5 (wr.setCell ⟨g, X + i, none⟩ (.int .u8 0))) := Lib.hid (hh.out.2.own hcg _)
      clear hh
      go_wp2
      go_roundw
      case rel => exact ⟨i + 1, by omega, by go_num, Lib.hid ⟨HST.out, HKT.out⟩⟩
      case measure => simp [intOf]; omega
    · obtain rfl : i = Y := by omega
      have HF2 := Lib.hid hh.out.1
      have HK := Lib.hid (hh.out.2)
      clear hh
      go_wp2
      go_ret
      exact moE (HR5.out.wrote HK.out HF2.out pt_len (pt_fit HR5.out.fit fit_zero)) (HK5.out.trans (KS.of HK.out (.inr rfl)) HCC.out) HCC.out
theorem freeM_any (c : Nat → Nat) (q g : Nat) (U : List (Int × Int)) (bs : List Int) (x y : Int) (w : World) (h : Mrn w c q g U bs) (hi : Ins bs.length U) (hU : U.length ≤ 900) :
    Calls Try.prog 55 #[.pointer (some ⟨q, 0, none⟩), .agg #[.int .i64 x, .int .i64 y]] w (MoE w c q g (wo U (x, y)) (frB U bs x y) (.int .i64 (if (x, y) ∈ U then 0 else 6))) := by
  by_cases hm : (x, y) ∈ U
  · exact freeM_yes c q g U bs x y w h hi hU hm
  · exact freeM_no c q g U bs x y w h hU hm
/-- An allocation by the model, whatever comes of it. -/
theorem allocM_any (c : Nat → Nat) (q g : Nat) (F A U : List (Int × Int)) (bs : List Int) (n : Int) (w : World) (h : Mrn w c q g U bs) (hv : Gd bs.length F A) (hp : A.Perm U) (hU : U.length ≤ 900) :
    Calls Try.prog 54 #[.pointer (some ⟨q, 0, none⟩), .int .i64 n] w (MoE w c q g (alU U (chR F n)) bs (rV (chR F n))) := by
  by_cases hr : (chR F n).2 = 0
  · obtain ⟨x, s, z, h1, h2, h3, h4, h5, rfl, h7⟩ := chR_ok hr
    obtain ⟨i, hi⟩ := lb_ex hv z.1
    obtain ⟨_, _, g3⟩ := gd_alloc hv h5 h7 hi
    refine (allocR_yes c 2 q _ n z.1 s F A U w h.mo hv hp hU h1 h2 h3 h4 g3).mono ?_
    rintro e w' ⟨rfl, hmo, hk⟩
    rw [h1]
    unfold alU
    rw [if_pos rfl]
    exact moE (h.alcd hk (fun _ hx => rc_old hx) hmo) (KS.of hk (.inl rfl)) (fun _ hx => rc_old hx)
  · have h1 := chR_bad hr
    refine (allocR_no c 2 q _ n F A U w h.mo hv hp hU hr).mono ?_
    generalize chR F n = r at *
    obtain ⟨r1, r2⟩ := r
    simp only at h1 hr ⊢
    subst h1
    rintro e w' ⟨rfl, hb⟩
    unfold alU
    rw [if_neg hr]
    exact moE (h.go hb) (KS.ofBelow hb) (fun _ _ => rfl)
/-- What NewArena says. -/
def NewM (w : World) (c : Nat → Nat) (n : Nat) (e : Ending) (w' : World) : Prop :=
  ∃ c' q g, e = .returned (.pointer (some ⟨q, 0, none⟩)) ∧ Mrn w' c' q g [] (List.replicate n 0) ∧ Below w.heap.size w w' ∧ (∀ x, x < w.heap.size → c' x = c x) ∧ ∀ x, w'.heap.size ≤ x → c' x = 9
theorem newM_any (c : Nat → Nat) (n : Nat) (w : World) (h1 : n ≤ 1048576) :
    Calls Try.prog 32 #[.int .i64 n] w (NewM w c n) := by
  obtain ⟨i0, hi, hz0, hz1, hz2⟩ := infoU8
  go_enter Try.func32, Try.ntmps32
  go_wp2_with (first
    | (at_make; refine wpList_make_full _ rfl _ _ 40 rfl w.heap.size 5 i0 _ 1 Try.underlying40 hi hz0 hz1 _ _ _ _ n rfl rfl rfl rfl (by rw [hz2]; omega) (by unfold maxLen; omega) (Nat.le_refl _) ?_
       intro w2 hown hg
       have HB2 := Lib.hid ((Below.refl _ _).grown hg (Nat.le_refl _) (by simp) : Below w.heap.size w w2)
       have HO2 := Lib.hid (byt_made hown)
       clear hown hg))
  go_ret
  have hg : w.heap.size < w2.heap.size := HO2.out.lt
  have hb3 : Below w2.heap.size w2 (w2.alloc (.cells #[.int .i64 n, .slice none 0 0, .slice (some ⟨w.heap.size, 0, none⟩) n n] 79)) := (Below.refl _ _).alloc (Nat.le_refl _) _
  have hz3 : (w2.alloc (.cells #[.int .i64 n, .slice none 0 0, .slice (some ⟨w.heap.size, 0, none⟩) n n] 79)).heap.size = w2.heap.size + 1 := by simp
  have hnew := heap_alloc_new w2 (.cells #[.int .i64 n, .slice none 0 0, .slice (some ⟨w.heap.size, 0, none⟩) n n] 79)
  generalize w2.alloc (.cells #[.int .i64 n, .slice none 0 0, .slice (some ⟨w.heap.size, 0, none⟩) n n] 79) = w3 at *
  refine ⟨nc c w.heap.size w3.heap.size w2.heap.size w.heap.size 2 5 9, w2.heap.size, w.heap.size, rfl, ⟨⟨.slice none 0 0, ?_, OwnE.nil _ _ _, ?_, fun g hg => by cases hg⟩, HO2.out.go hb3, ?_, fit_zero, by simpa using h1⟩, Below.then HB2.out hb3 (by omega), fun x hx => nc_old hx, fun x hx => nc_new (by omega) (by omega) (by omega) hx⟩
  · rw [List.length_replicate]; exact hnew
  · unfold nc
    rw [if_neg (by omega), if_pos rfl]
  · unfold nc
    rw [if_neg (by omega), if_neg (by omega), if_pos rfl]
end Go.Proofs.Ytfchccgajcjbbaa
