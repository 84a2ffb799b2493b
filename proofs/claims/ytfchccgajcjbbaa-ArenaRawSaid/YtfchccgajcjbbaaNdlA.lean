/-
  Contract of the model's Alloc. Conditions: at most nine hundred extents; the model's list is a permutation of an allocator's (Gd).
-/
import Derived.Test.YtfchccgajcjbbaaNdlF
import Derived.Deep.RegionLaw
namespace Go.Proofs.Ytfchccgajcjbbaa
open Go.ChangeShapes Go.WideShapes Go.ChangeAt Go.RowKit
set_option maxHeartbeats 8000000
set_option maxRecDepth 100000

section
variable {P : Program}
/-- An append of pairs as one step of a region that draws. -/
theorem step_appE (w : World) {ops : Array Oper} {o : Oper} {a : Act} {K : Act → World → Prop} {Q : Exit → Act → World → Prop} {E : Prop} (hgd : o.guard = none) (s x : Operand) (t : TypeId)
    (ho : o.op = .call { callee := .builtin .append, args := #[s, x], argTypes := #[t, t] })
    {e : TypeId} {i : TypeInfo} {z : Value} (ht : P.underlying t = some (.slice e)) (hi : P.info? e = some i) (hz : i.zero = some z) (hzs : z.cells.size = 2) (hsz : i.size = 2) (hby : i.bytes ≤ 64)
    {base : Nat} {v : Value} {xs : List (Int × Int)} (hown : OwnE e w base v xs) (hs : a.eval s = v) {B : Nat} {A : Option Addr} {m c : Nat} {ys : List (Int × Int)} (hy : Exs w B A m c ys) (hx : a.eval x = .slice A m c)
    (hsm : xs.length + m ≤ 4294967296) (hb : base ≤ w.heap.size)
    (h : ∀ v' w', OwnE e w' base v' (xs ++ ys) → Below base w w' → w.grownBy w' v.ownBlock → K (a.put o.dst v') w') :
    if Region.wanted o (yielded ops a.tmps) = true then Oper.wp P o a w K Q else E := by
  have hw : Region.wanted o (yielded ops a.tmps) = true := by simp [Region.wanted, hgd]
  rw [if_pos hw]
  obtain ⟨v', w', hrun, h2, h3, h4, _⟩ := run_appE (P := P) w t o.type e i z ht hi hz hzs hsz hby base v xs hown hy hsm hb
  unfold Oper.wp execOp
  simp only [ho, resolve, invoke, builtin, Sem.run_bind, Sem.run_pure, Result.andThen_ok, List.map_toArray, List.map_cons, List.map_nil, hs, hx, hrun]
  exact h v' w' h2 h3 h4
end
theorem exs_one {w : World} {b : Nat} {x y : Int} (h : w.heap[b]? = some (.cells #[.int .i64 x, .int .i64 y] 31 (0, 0))) (hf : Fits [(x, y)]) : Exs w w.heap.size (some ⟨b, 0, none⟩) 1 1 [(x, y)] :=
  ⟨rfl, Nat.le_refl _, by unfold maxLen; omega, (fun h => by cases h), hf, fun _ => ⟨b, 0, rfl, (Array.getElem?_eq_some_iff.1 h).1, fun j z hz => by
    cases j with
    | zero =>
      simp at hz
      subst hz
      exact ⟨cell_of_row w b 0 _ _ _ h, cell_of_row w b 1 _ _ _ h⟩
    | succ j => simp at hz⟩⟩
theorem allocR_no {X : List Value} {T : TypeId} (c : Nat → Nat) (k q : Nat) (n m : Int) (F A U : List (Int × Int)) (w : World) (h : Mdl w c k q n U X T) (hv : Gd n F A) (hp : A.Perm U) (hU : U.length ≤ 900) (hr : (chR F m).2 ≠ 0) :
    Calls Try.prog 54 #[.pointer (some ⟨q, 0, none⟩), .int .i64 m] w (ChE w ((0, 0), (chR F m).2)) := by
  have hb0 : Below w.heap.size w (w.alloc (.cells #[.int .i64 0, .int .i64 0] 31)) := (Below.refl _ _).alloc (Nat.le_refl _) _
  have HBX := Lib.hid (Box.new (w := w) (x := 0) (y := 0))
  have HB0 := Lib.hid hb0
  have H := Lib.hid (fitsR_any c k q n m F A U _ (h.go hb0) hv hp hU)
  generalize (chR F m).2 = r at *
  clear h hb0 hv hp
  go_enter Try.func54, Try.ntmps54
  go_wp2_with fail
  refine H.out.mono ?_
  rintro e w2 ⟨rfl, hb2⟩
  have HBX2 := Lib.hid (HBX.out.go hb2)
  have HB2 := Lib.hid (Below.then HB0.out hb2 (Nat.le_refl _))
  have g0 := HBX2.out.cell0
  have g1 := HBX2.out.cell1
  have g2 := HBX2.out.fr0
  have g3 := HBX2.out.fr1
  clear H hb2
  go_wp2
  have HBX4 := Lib.hid (HBX2.out.set 0 0)
  have HB4 := Lib.hid ((HB2.out.setCell (p := ⟨w.heap.size, 0, none⟩) (Nat.le_refl _) (.int .i64 0)).setCell (p := ⟨w.heap.size, 1, none⟩) (Nat.le_refl _) (.int .i64 0))
  generalize (w2.setCell ⟨w.heap.size, 0, none⟩ (.int .i64 0)).setCell ⟨w.heap.size, 1, none⟩ (.int .i64 0) = w4 at *
  have k0 := HBX4.out.cell0
  have k1 := HBX4.out.cell1
  exact bodyPost_ret (v := .tuple #[.agg #[.int .i64 0, .int .i64 0], .int .i64 r]) (by simp [results, Try.results54, go_sem, k0, k1]) rfl ⟨rfl, HB4.out⟩

theorem allocR_yes {X : List Value} {T : TypeId} (c : Nat → Nat) (k q : Nat) (n m x s : Int) (F A U : List (Int × Int)) (w : World) (h : Mdl w c k q n U X T) (hv : Gd n F A) (hp : A.Perm U) (hU : U.length ≤ 900) (hr : chR F m = ((x, s), 0)) (hs : szR m = s) (he : erR m = 0) (hpl : plR F s = (x, true)) (hpr : Pr x s) :
    Calls Try.prog 54 #[.pointer (some ⟨q, 0, none⟩), .int .i64 m] w fun e w' => e = .returned (.tuple #[.agg #[.int .i64 x, .int .i64 s], .int .i64 0]) ∧
      Mdl w' (rc c w.heap.size k) k q n (U ++ [(x, s)]) X T ∧ Kept c k w w' := by
  obtain ⟨i0, hi0, hz0, hz1, hz2⟩ := info_parts infoE
  have hb0 : Below w.heap.size w (w.alloc (.cells #[.int .i64 0, .int .i64 0] 31)) := (Below.refl _ _).alloc (Nat.le_refl _) _
  have HBX := Lib.hid (Box.new (w := w) (x := 0) (y := 0))
  have HB0 := Lib.hid hb0
  have H := Lib.hid (fitsR_any c k q n m F A U _ (h.go hb0) hv hp hU)
  rw [hr] at H
  have HR := Lib.hid (fun W => roundR_any m W)
  rw [hs, he] at HR
  have HP := Lib.hid (fun W (hW : Mdl W c k q n U X T) => placeR_any c k q n s F A U W hW hv hp hU)
  rw [hpl] at HP
  have HM := Lib.hid h
  have HPR := Lib.hid hpr
  have p1 := hpr.1
  have p2 := hpr.2.1
  have p3 := hpr.2.2
  clear h hb0 hv hp hr hs he hpl hpr
  go_enter Try.func54, Try.ntmps54
  go_wp2_with fail
  refine H.out.mono ?_
  rintro e w2 ⟨rfl, hb2⟩
  have HBX2 := Lib.hid (HBX.out.go hb2)
  have HB2 := Lib.hid (Below.then HB0.out hb2 (Nat.le_refl _))
  clear H hb2 HBX HB0
  go_wp2_with fail
  refine (HR.out w2).mono ?_
  rintro e w3 ⟨rfl, hb3⟩
  have HBX3 := Lib.hid (HBX2.out.go hb3)
  have HB3 := Lib.hid (Below.then HB2.out hb3 (Nat.le_refl _))
  clear HR hb3 HBX2 HB2
  go_wp2_with fail
  refine (HP.out w3 (HM.out.go HB3.out)).mono ?_
  rintro e w4 ⟨rfl, hb4⟩
  have HBX4 := Lib.hid (HBX3.out.go hb4)
  have HB4 := Lib.hid (Below.then HB3.out hb4 (Nat.le_refl _))
  clear HP hb4 HBX3 HB3
  have hb5 : Below w4.heap.size w4 (w4.alloc (.cells #[.int .i64 x, .int .i64 s] 31)) := (Below.refl _ _).alloc (Nat.le_refl _) _
  have HBX5 := Lib.hid (HBX4.out.go hb5)
  have HE5 := Lib.hid (Box.new (w := w4) (x := x) (y := s))
  have HB5 := Lib.hid (Below.then HB4.out hb5 (Nat.le_refl _))
  have hw4 : w.heap.size < w4.heap.size := HBX4.out.lt
  clear hb5 HBX4 HB4
  go_wp2_with fail
  generalize w4.alloc (.cells #[.int .i64 x, .int .i64 s] 31) = w5 at *
  have hw5 : w4.heap.size < w5.heap.size := HE5.out.lt
  have hqw := HM.out.lt
  obtain ⟨vu, h1, h2, h3, h4⟩ := HM.out.ex
  have h1 := (HB5.out.block q hqw).trans h1
  have h2 := h2.below HB5.out
  obtain ⟨Au, nu, cu, rfl, hxu⟩ := h2.shape
  have HBLK := Lib.hid h1
  have HC := Lib.hid h3
  have hnu : nu ≤ 900 := by have := hxu.len; omega
  have HXU := Lib.hid hxu
  have hq5 : q < w5.heap.size := by omega
  clear h1 h2 h3 h4 hxu
  -- the cells that are read, under what is made
  obtain ⟨O0, hO0⟩ : ∃ O : Obj, O = .cells #[] 31 := ⟨_, rfl⟩
  obtain ⟨O1, hO1⟩ : ∃ O : Obj, O = .cells #[.int .i64 x, .int .i64 s] 31 := ⟨_, rfl⟩
  have k0 : w5.cell? ⟨q, 1, none⟩ = some (.slice Au nu cu) := cell_of_row w5 q 1 _ _ _ HBLK.out
  have k1 := HE5.out.cell0
  have k2 := HE5.out.cell1
  have k0a := cell_under k0 O0
  have k0b := cell_under k0 O1
  have k0c := cell_under k0a O1
  have k0d := cell_under k0b O0
  have k1a := cell_under k1 O0
  have k2a := cell_under k2 O0
  -- the empty row, in the three orders; and what came in
  have ga : Hid (OwnE 31 (w5.drew.alloc O0) w5.heap.size (.slice (some ⟨w5.heap.size, 0, none⟩) 0 0) []) := Lib.hid ⟨by rw [hO0]; exact World.ownsRow_made w5.drew #[] 0 (Nat.le_refl _) (Nat.zero_le _) rfl, Fits.nil⟩
  have gb : Hid (OwnE 31 ((w5.drew.alloc O0).alloc O1) w5.heap.size (.slice (some ⟨w5.heap.size, 0, none⟩) 0 0) []) := Lib.hid (ga.out.alloc _)
  have gc : Hid (OwnE 31 ((w5.drew.alloc O1).alloc O0) (w5.heap.size + 1) (.slice (some ⟨w5.heap.size + 1, 0, none⟩) 0 0) []) := Lib.hid ⟨by
    have := World.ownsRow_made (w5.drew.alloc O1) #[] (e := 31) (size := 2) 0 (Nat.le_refl _) (Nat.zero_le _) rfl
    rw [hO0]
    have e : (w5.drew.alloc O1).heap.size = w5.heap.size + 1 := by simp
    rw [e] at this
    exact this, Fits.nil⟩
  have hxd := HXU.out.go (below_drewN (Below.refl w5.heap.size w5) 1)
  have xa : Hid (Exs (w5.drew.alloc O0) w5.heap.size Au nu cu U) := Lib.hid (hxd.alloc O0)
  have xb : Hid (Exs ((w5.drew.alloc O0).alloc O1) w5.heap.size Au nu cu U) := Lib.hid ((hxd.alloc O0).below ((Below.refl _ _).alloc (by simp) O1))
  have xc : Hid (Exs ((w5.drew.alloc O1).alloc O0) w5.heap.size Au nu cu U) := Lib.hid ((hxd.alloc O1).below ((Below.refl _ _).alloc (by simp) O0))
  clear hxd
  have hN1 : Hid (((w5.drew.alloc O0).alloc O1).heap[w5.heap.size + 1]? = some (.cells #[.int .i64 x, .int .i64 s] 31 (0, 0))) := Lib.hid (by
    have := heap_alloc_new (w5.drew.alloc O0) O1
    have e : (w5.drew.alloc O0).heap.size = w5.heap.size + 1 := by simp
    rw [e, hO1] at this
    rw [hO1]
    exact this)
  have hN0 : Hid (((w5.drew.alloc O1).alloc O0).heap[w5.heap.size]? = some (.cells #[.int .i64 x, .int .i64 s] 31 (0, 0))) := Lib.hid (by
    rw [Below.heap_alloc (w5.drew.alloc O1) O0 w5.heap.size (by simp)]
    have := heap_alloc_new w5.drew O1
    rw [hO1] at this ⊢
    exact this)
  have hFit : Hid (Fits [(x, s)]) := Lib.hid (fun z hz => by simp at hz; subst hz; simp only; omega)
  have hULn : Hid (U.length ≤ 900) := Lib.hid hU
  subst hO0 hO1
  have HI := Lib.hid hi0
  have HZ := Lib.hid hz0
  clear hi0 hz0
  go_wp2_with fail
  go_region_law
    (first
      | (refine step_appE (w5.drew.alloc (.cells #[] 31)) rfl (.tmp 34) (.tmp 38) 34 rfl Try.underlying34 HI.out HZ.out rfl hz1 (by omega) ga.out rfl xa.out rfl (by simp; omega) (by simp) ?_
         intro v6 w6 ho6 hb6 hg6
         obtain ⟨A6, n6, c6, rfl, hx6⟩ := ho6.shape
         have HO6 := Lib.hid (ho6.down (B := w5.heap.size) (by omega))
         have HB6 : Hid (Below w5.heap.size w5 w6) := Lib.hid (Below.trans (B := w5.heap.size) ((below_drewN (Below.refl _ _) 1).alloc (Nat.le_refl _) _) (hb6.mono (B' := w5.heap.size) (by omega)))
         have HBL6 : Hid (w6.heap[q]? = some (.cells (List.toArray (.int .i64 n :: .slice Au nu cu :: X)) T (0, 0))) := Lib.hid ((HB6.out.block q hq5).trans HBLK.out)
         have m0 : w6.cell? ⟨q, 1, none⟩ = some (.slice Au nu cu) := cell_of_row w6 q 1 _ _ _ HBL6.out
         have m1 : w6.cell? ⟨w4.heap.size, 0, none⟩ = some (.int .i64 x) := (HE5.out.go HB6.out).cell0
         have m2 : w6.cell? ⟨w4.heap.size, 1, none⟩ = some (.int .i64 s) := (HE5.out.go HB6.out).cell1
         have HS6 : Hid (w5.heap.size ≤ w6.heap.size) := Lib.hid HB6.out.size
         clear ho6 hb6 hg6 hx6)
      | (refine step_appE ((w5.drew.alloc (.cells #[] 31)).alloc (.cells #[.int .i64 x, .int .i64 s] 31)) rfl (.tmp 34) (.tmp 38) 34 rfl Try.underlying34 HI.out HZ.out rfl hz1 (by omega) gb.out rfl xb.out rfl (by simp; omega) (by simp; omega) ?_
         intro v6 w6 ho6 hb6 hg6
         obtain ⟨A6, n6, c6, rfl, hx6⟩ := ho6.shape
         have HO6 := Lib.hid (ho6.down (B := w5.heap.size) (by omega))
         have HB6 : Hid (Below w5.heap.size w5 w6) := Lib.hid (Below.trans (B := w5.heap.size) (((below_drewN (Below.refl _ _) 1).alloc (Nat.le_refl _) _).alloc (by simp) _) (hb6.mono (B' := w5.heap.size) (by omega)))
         have HBL6 : Hid (w6.heap[q]? = some (.cells (List.toArray (.int .i64 n :: .slice Au nu cu :: X)) T (0, 0))) := Lib.hid ((HB6.out.block q hq5).trans HBLK.out)
         have m0 : w6.cell? ⟨q, 1, none⟩ = some (.slice Au nu cu) := cell_of_row w6 q 1 _ _ _ HBL6.out
         have m1 : w6.cell? ⟨w4.heap.size, 0, none⟩ = some (.int .i64 x) := (HE5.out.go HB6.out).cell0
         have m2 : w6.cell? ⟨w4.heap.size, 1, none⟩ = some (.int .i64 s) := (HE5.out.go HB6.out).cell1
         have HS6 : Hid (w5.heap.size ≤ w6.heap.size) := Lib.hid HB6.out.size
         have HX6 : Hid (Exs w6 w6.heap.size (some ⟨w5.heap.size + 1, 0, none⟩) 1 1 [(x, s)]) := Lib.hid (exs_one ((hg6.block (w5.heap.size + 1) (by simp) (fun e => absurd (Option.some.inj e) (by simp))).trans hN1.out) hFit.out)
         clear ho6 hb6 hg6 hx6)
      | (refine step_appE ((w5.drew.alloc (.cells #[.int .i64 x, .int .i64 s] 31)).alloc (.cells #[] 31)) rfl (.tmp 34) (.tmp 38) 34 rfl Try.underlying34 HI.out HZ.out rfl hz1 (by omega) gc.out rfl xc.out rfl (by simp; omega) (by simp) ?_
         intro v6 w6 ho6 hb6 hg6
         obtain ⟨A6, n6, c6, rfl, hx6⟩ := ho6.shape
         have HO6 := Lib.hid (ho6.down (B := w5.heap.size) (by omega))
         have HB6 : Hid (Below w5.heap.size w5 w6) := Lib.hid (Below.trans (B := w5.heap.size) (((below_drewN (Below.refl _ _) 1).alloc (Nat.le_refl _) _).alloc (by simp) _) (hb6.mono (B' := w5.heap.size) (by omega)))
         have HBL6 : Hid (w6.heap[q]? = some (.cells (List.toArray (.int .i64 n :: .slice Au nu cu :: X)) T (0, 0))) := Lib.hid ((HB6.out.block q hq5).trans HBLK.out)
         have m0 : w6.cell? ⟨q, 1, none⟩ = some (.slice Au nu cu) := cell_of_row w6 q 1 _ _ _ HBL6.out
         have m1 : w6.cell? ⟨w4.heap.size, 0, none⟩ = some (.int .i64 x) := (HE5.out.go HB6.out).cell0
         have m2 : w6.cell? ⟨w4.heap.size, 1, none⟩ = some (.int .i64 s) := (HE5.out.go HB6.out).cell1
         have HS6 : Hid (w5.heap.size ≤ w6.heap.size) := Lib.hid HB6.out.size
         have HX6 : Hid (Exs w6 w6.heap.size (some ⟨w5.heap.size, 0, none⟩) 1 1 [(x, s)]) := Lib.hid (exs_one ((hb6.block w5.heap.size (by omega)).trans hN0.out) hFit.out)
         clear ho6 hb6 hg6 hx6)
      | (refine step_appE (w6.alloc (.cells #[.int .i64 x, .int .i64 s] 31)) rfl (.tmp 39) (.tmp 41) 34 rfl Try.underlying34 HI.out HZ.out rfl hz1 (by omega) (HO6.out.alloc _) rfl (Exs.new w6 [(x, s)] _ _ 1 rfl rfl (by unfold maxLen; omega) hFit.out) rfl (by have := hULn.out; simp; omega) (by have := HS6.out; simp; omega) ?_
         intro v7 w7 ho7 hb7 hg7
         obtain ⟨A7, n7, c7, rfl, hx7⟩ := ho7.shape
         have HO7 := Lib.hid ho7
         have HB7 : Hid (Below w5.heap.size w5 w7) := Lib.hid ((HB6.out.alloc HB6.out.size _).trans hb7)
         have HBL7 : Hid (w7.heap[q]? = some (.cells (List.toArray (.int .i64 n :: .slice Au nu cu :: X)) T (0, 0))) := Lib.hid ((HB7.out.block q hq5).trans HBLK.out)
         have r0 : w7.cell? ⟨q, 1, none⟩ = some (.slice Au nu cu) := cell_of_row w7 q 1 _ _ _ HBL7.out
         have r1 : w7.frozen? ⟨q, 1, none⟩ = false := frozen_of_row w7 q 1 _ _ HBL7.out
         clear ho7 hb7 hg7 hx7)
      | (refine step_appE w6 rfl (.tmp 39) (.tmp 41) 34 rfl Try.underlying34 HI.out HZ.out rfl hz1 (by omega) HO6.out rfl HX6.out rfl (by have := hULn.out; simp; omega) (by have := HS6.out; simp; omega) ?_
         intro v7 w7 ho7 hb7 hg7
         obtain ⟨A7, n7, c7, rfl, hx7⟩ := ho7.shape
         have HO7 := Lib.hid ho7
         have HB7 : Hid (Below w5.heap.size w5 w7) := Lib.hid (HB6.out.trans hb7)
         have HBL7 : Hid (w7.heap[q]? = some (.cells (List.toArray (.int .i64 n :: .slice Au nu cu :: X)) T (0, 0))) := Lib.hid ((HB7.out.block q hq5).trans HBLK.out)
         have r0 : w7.cell? ⟨q, 1, none⟩ = some (.slice Au nu cu) := cell_of_row w7 q 1 _ _ _ HBL7.out
         have r1 : w7.frozen? ⟨q, 1, none⟩ = false := frozen_of_row w7 q 1 _ _ HBL7.out
         clear ho7 hb7 hg7 hx7))
  all_goals
    have hq4 : w.heap.size ≠ q := by omega
    have hq6 : w4.heap.size ≠ q := by omega
    have f2 := HO7.out.setc (b := q) (o := 1) (fun e => by have := HO7.out.blk_ge e; omega) (.slice A7 n7 c7)
    have f3 := ((HBX5.out.go HB7.out)).setc (b' := q) (o := 1) hq4 (.slice A7 n7 c7)
    have f4 := ((HE5.out.go HB7.out)).setc (b' := q) (o := 1) hq6 (.slice A7 n7 c7)
    have f5 := ((Kept.ofBelow (c := c) (k := k) (Below.then HB5.out HB7.out (Nat.le_refl _)))).own (b := q) (o := 1) HC.out (.slice A7 n7 c7)
    have f6 : (w7.setCell ⟨q, 1, none⟩ (.slice A7 n7 c7)).heap[q]? = some (.cells (List.toArray (.int .i64 n :: .slice A7 n7 c7 :: X)) T (0, 0)) := heap_setCell_same w7 q 1 _ _ _ HBL7.out
    have HD : Hid (∀ g, (Value.slice A7 n7 c7).ownBlock = some g → w5.heap.size ≤ g) := Lib.hid (fun g hg => HO7.out.blk_ge hg)
    rw [List.nil_append] at f2
    generalize w7.setCell ⟨q, 1, none⟩ (.slice A7 n7 c7) = w9 at *
    have HF2 := Lib.hid (f2.down (Nat.zero_le _))
    have HF3 := Lib.hid f3
    have HF5 := Lib.hid f5
    have HF6 := Lib.hid f6
    have e0 := f4.cell0
    have e1 := f4.cell1
    have t0 := f3.cell0
    have t1 := f3.cell1
    have t2 := f3.fr0
    have t3 := f3.fr1
    clear f2 f3 f4 f5 f6 HO7 HB7 HBL7 HBX5 HE5 HB5 HBLK r0 r1 k0 k1 k2 k0a k0b k0c k0d k1a k2a ga gb gc xa xb xc HO6 HB6 HBL6 m0 m1 m2 HS6 hN0 hN1
    go_wp2
    have g3 := HF3.out.set x s
    have g2 := (HF2.out.setc (b := w.heap.size) (o := 0) (fun e => by have := HD.out _ e; omega) (.int .i64 x)).setc (b := w.heap.size) (o := 1) (fun e => by have := HD.out _ e; omega) (.int .i64 s)
    have g5 := (HF5.out.above (b := w.heap.size) (o := 0) (Nat.le_refl _) (.int .i64 x)).above (b := w.heap.size) (o := 1) (Nat.le_refl _) (.int .i64 s)
    have g6 := (Below.heap_setCell (w9.setCell ⟨w.heap.size, 0, none⟩ (.int .i64 x)) ⟨w.heap.size, 1, none⟩ (.int .i64 s) q (fun e => hq4 e.symm)).trans ((Below.heap_setCell w9 ⟨w.heap.size, 0, none⟩ (.int .i64 x) q (fun e => hq4 e.symm)).trans HF6.out)
    generalize (w9.setCell ⟨w.heap.size, 0, none⟩ (.int .i64 x)).setCell ⟨w.heap.size, 1, none⟩ (.int .i64 s) = w10 at *
    have k0 := g3.cell0
    have k1 := g3.cell1
    refine bodyPost_ret (v := .tuple #[.agg #[.int .i64 x, .int .i64 s], .int .i64 0]) (by simp [results, Try.results54, go_sem, k0, k1]) rfl ⟨rfl, ⟨_, g6, g2, rc_is (.inl HC.out), fun g hg => ?_⟩, g5⟩
    have := HD.out g hg
    exact ⟨rc_is (.inr (by omega)), by omega⟩
end Go.Proofs.Ytfchccgajcjbbaa
