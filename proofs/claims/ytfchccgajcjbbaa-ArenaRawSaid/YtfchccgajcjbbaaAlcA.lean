/-
  Contracts of the allocator's methods Alloc and Free: what they return, the new free set and list, and that nothing else changes. Conditions: the free set and the list belong together (Gd); at most nine hundred allocated extents.
-/
import Derived.Test.YtfchccgajcjbbaaAlcM
import Derived.Deep.RegionWith
import Derived.BigRegion
namespace Go.Proofs.Ytfchccgajcjbbaa
open Go.ChangeShapes Go.WideShapes Go.ChangeAt Go.RowKit
set_option maxHeartbeats 4000000
set_option maxRecDepth 100000

theorem flen_le {size : Int} {F A : List (Int × Int)} (h : Gd size F A) : F.length ≤ A.length + 1 := by
  obtain ⟨_, _, e⟩ := free_eq h (List.Perm.refl A)
  rw [← e]
  have h1 := cmp_len (l := insAll A) (a := 0) (size := size)
  have h2 := insAll_len (l := A) (r := A.reverse) (by simp)
  omega
theorem OwnE.setc {t : TypeId} {w : World} {base b o : Nat} {v : Value} {l : List (Int × Int)} (h : OwnE t w base v l) (hne : v.ownBlock ≠ some b) (u : Value) : OwnE t (w.setCell ⟨b, o, none⟩ u) base v l := by
  refine ⟨⟨h.1.1, ?_⟩, h.2⟩
  rcases h.1.2 with h0 | ⟨g, cap, cur, rfl, hbg, hg, hnc, hm, hs, ht⟩
  · exact .inl h0
  · exact .inr ⟨g, cap, cur, rfl, hbg, (Below.heap_setCell w ⟨b, o, none⟩ u g (fun e => hne (by rw [e]; rfl))).trans hg, hnc, hm, hs, ht⟩
theorem Box.setc {w : World} {b b' o : Nat} {x y : Int} (h : Box w b x y) (hne : b ≠ b') (u : Value) : Box (w.setCell ⟨b', o, none⟩ u) b x y := (Below.heap_setCell w ⟨b', o, none⟩ u b hne).trans h
theorem Kept.above {c : Nat → Nat} {k b o : Nat} {w w' : World} (h : Kept c k w w') (hb : w.heap.size ≤ b) (u : Value) : Kept c k w (w'.setCell ⟨b, o, none⟩ u) :=
  ⟨h.os, h.tape, h.output, by have := h.size; simpa [World.setCell] using this, fun g hg hc => (Below.heap_setCell w' ⟨b, o, none⟩ u g (by simp only; omega)).trans (h.block g hg hc)⟩
theorem Kept.own {c : Nat → Nat} {k b o : Nat} {w w' : World} (h : Kept c k w w') (hb : c b = k) (u : Value) : Kept c k w (w'.setCell ⟨b, o, none⟩ u) :=
  ⟨h.os, h.tape, h.output, by have := h.size; simpa [World.setCell] using this, fun g hg hc => (Below.heap_setCell w' ⟨b, o, none⟩ u g (fun e => hc (by rw [e]; exact hb))).trans (h.block g hg hc)⟩
theorem Kept.grown {c : Nat → Nat} {k : Nat} {r : Option Nat} {w w' w'' : World} (h : Kept c k w w') (hg : w'.grownBy w'' r) (hr : ∀ g, r = some g → c g = k) : Kept c k w w'' := h.trans (Kept.ofGrown hg hr)
theorem Box.grown {w w' : World} {b : Nat} {x y : Int} {r : Option Nat} (h : Box w b x y) (hg : w.grownBy w' r) (hne : r ≠ some b) : Box w' b x y := (hg.block b h.lt (fun e => hne e.symm)).trans h
theorem OwnE.grown {t : TypeId} {w w' : World} {base : Nat} {v : Value} {l : List (Int × Int)} {r : Option Nat} (h : OwnE t w base v l) (hg : w.grownBy w' r) (hne : ∀ g, v.ownBlock = some g → r ≠ some g) : OwnE t w' base v l := by
  refine ⟨⟨h.1.1, ?_⟩, h.2⟩
  rcases h.1.2 with h0 | ⟨g, cap, cur, rfl, hbg, hg', hnc, hm, hs, ht⟩
  · exact .inl h0
  · exact .inr ⟨g, cap, cur, rfl, hbg, (hg.block g (Array.getElem?_eq_some_iff.1 hg').1 (fun e => hne g rfl e.symm)).trans hg', hnc, hm, hs, ht⟩
theorem rc_is {c : Nat → Nat} {n k g : Nat} (h : c g = k ∨ n ≤ g) : rc c n k g = k := by
  unfold rc
  split
  · rcases h with h | h
    · exact h
    · omega
  · rfl
theorem alloc_no (c : Nat → Nat) (k p : Nat) (F A : List (Int × Int)) (n : Int) (w : World) (h : Alc w c k p F A) (hF : F.length ≤ 1000000) (hr : (chR F n).2 ≠ 0) :
    Calls Try.prog 53 #[.pointer (some ⟨p, 0, none⟩), .int .i64 n] w (ChE w ((0, 0), (chR F n).2)) := by
  have hb0 : Below w.heap.size w (w.alloc (.cells #[.int .i64 0, .int .i64 0] 31)) := (Below.refl _ _).alloc (Nat.le_refl _) _
  have HBX := Lib.hid (Box.new (w := w) (x := 0) (y := 0))
  have HB0 := Lib.hid hb0
  have H := Lib.hid (choose_any c k p F A n _ (h.go hb0) hF)
  generalize chR F n = r at *
  obtain ⟨⟨x, y⟩, z⟩ := r
  simp only at hr
  clear h hb0
  go_enter Try.func53, Try.ntmps53
  go_wp2_with fail
  refine H.out.mono ?_
  rintro e w2 ⟨rfl, hb2⟩
  have HBX2 := Lib.hid (HBX.out.go hb2)
  have HB2 := Lib.hid (Below.then HB0.out hb2 (Nat.le_refl _))
  have hb3 : Below w2.heap.size w2 (w2.alloc (.cells #[.int .i64 x, .int .i64 y] 31)) := (Below.refl _ _).alloc (Nat.le_refl _) _
  have HBX3 := Lib.hid (HBX2.out.go hb3)
  have HB3 := Lib.hid (Below.then HB2.out hb3 (Nat.le_refl _))
  have g0 := HBX3.out.cell0
  have g1 := HBX3.out.cell1
  have g2 := HBX3.out.fr0
  have g3 := HBX3.out.fr1
  clear H hb2 hb3
  go_wp2
  have HBX4 := Lib.hid (HBX3.out.set 0 0)
  have HB4 := Lib.hid ((HB3.out.setCell (p := ⟨w.heap.size, 0, none⟩) (Nat.le_refl _) (.int .i64 0)).setCell (p := ⟨w.heap.size, 1, none⟩) (Nat.le_refl _) (.int .i64 0))
  generalize ((w2.alloc (.cells #[.int .i64 x, .int .i64 y] 31)).setCell ⟨w.heap.size, 0, none⟩ (.int .i64 0)).setCell ⟨w.heap.size, 1, none⟩ (.int .i64 0) = w4 at *
  have k0 := HBX4.out.cell0
  have k1 := HBX4.out.cell1
  exact bodyPost_ret (v := .tuple #[.agg #[.int .i64 0, .int .i64 0], .int .i64 z]) (by simp [results, Try.results53, go_sem, k0, k1]) rfl ⟨rfl, HB4.out⟩

theorem alloc_yes (c : Nat → Nat) (k p i : Nat) (F A : List (Int × Int)) (size n x s : Int) (w : World) (h : Alc w c k p F A) (hv : Gd size F A) (hA : A.length ≤ 900) (hr : chR F n = ((x, s), 0)) (hh : Has F (x, s)) (hp : Pr x s) (hi : Lb A x i) :
    Calls Try.prog 53 #[.pointer (some ⟨p, 0, none⟩), .int .i64 n] w fun e w' => e = .returned (.tuple #[.agg #[.int .i64 x, .int .i64 s], .int .i64 0]) ∧
      Alc w' (rc c w.heap.size k) k p (rem F (x, s)) (A.take i ++ (x, s) :: A.drop i) ∧ Kept c k w w' := by
  have hFl := flen_le hv
  have hb0 : Below w.heap.size w (w.alloc (.cells #[.int .i64 0, .int .i64 0] 31)) := (Below.refl _ _).alloc (Nat.le_refl _) _
  have HBX := Lib.hid (Box.new (w := w) (x := 0) (y := 0))
  have HB0 := Lib.hid hb0
  have H := Lib.hid (choose_any c k p F A n _ (h.go hb0) (by omega))
  rw [hr] at H
  have HL := Lib.hid (fun W (hW : Alc W c k p F A) => locate_any c k p F A size x s W hW hv (by omega))
  have HAL := Lib.hid h
  have HI := Lib.hid hi
  have HV := Lib.hid hv
  have HP := Lib.hid hp
  have HHas := Lib.hid hh
  clear h hb0 hr hv hi hp hh
  go_enter Try.func53, Try.ntmps53
  go_wp2_with fail
  refine H.out.mono ?_
  rintro e w2 ⟨rfl, hb2⟩
  have HBX2 := Lib.hid (HBX.out.go hb2)
  have HB2 := Lib.hid (Below.then HB0.out hb2 (Nat.le_refl _))
  have hb3 : Below w2.heap.size w2 (w2.alloc (.cells #[.int .i64 x, .int .i64 s] 31)) := (Below.refl _ _).alloc (Nat.le_refl _) _
  have HBX3 := Lib.hid (HBX2.out.go hb3)
  have HE3 := Lib.hid (Box.new (w := w2) (x := x) (y := s))
  have HB3 := Lib.hid (Below.then HB2.out hb3 (Nat.le_refl _))
  have hwz : w.heap.size < w2.heap.size := HBX2.out.lt
  clear H hb2 hb3 HB2 HBX2 HBX HB0
  go_wp2_with fail
  generalize w2.alloc (.cells #[.int .i64 x, .int .i64 s] 31) = w3 at *
  refine (HL.out w3 (HAL.out.go HB3.out)).mono ?_
  rintro e w4 ⟨i', rfl, hi', hb4⟩
  obtain rfl := lb_one HI.out hi'
  have HBX4 := Lib.hid (HBX3.out.go hb4)
  have HE4 := Lib.hid (HE3.out.go hb4)
  have HB4 := Lib.hid (Below.then HB3.out hb4 (Nat.le_refl _))
  clear HL hi' hb4 HBX3 HE3 HB3
  have hwp : p < w.heap.size := HAL.out.lt
  obtain ⟨vf, va, h1, h2, h3, h4, h5, h6⟩ := HAL.out.ex
  have HVB : Hid (∀ g, va.ownBlock = some g → g < w.heap.size) := Lib.hid (fun g hg => h3.blk_lt hg)
  have h1 := (HB4.out.block p hwp).trans h1
  have h2 := h2.below HB4.out
  have h3 := h3.below HB4.out
  have hw4 : w.heap.size < w4.heap.size := HBX4.out.lt
  have HBLK := Lib.hid h1
  have HVF := Lib.hid h2
  have HVA := Lib.hid h3
  have HC := Lib.hid (And.intro h4 (And.intro h5 h6))
  obtain ⟨Af, nf, cf, rfl, hxf⟩ := h2.shape
  have HXF := Lib.hid hxf
  have hnf : nf ≤ 1000 := by have := hxf.len; omega
  have k0 : w4.cell? ⟨p, 0, none⟩ = some (.slice Af nf cf) := cell_of_row w4 p 0 _ _ _ h1
  have k1 := HE4.out.cell0
  have k2 := HE4.out.cell1
  have hpw : p < w4.heap.size := (Array.getElem?_eq_some_iff.1 h1).1
  have p1 := HP.out.1
  have p2 := HP.out.2.1
  have p3 := HP.out.2.2
  have HREM := Lib.hid (remove_any Af nf cf F x s w4.drew (hxf.go (below_drewN (Below.refl _ _) 1)) hnf (by omega) (by omega) (by omega) (by omega))
  rw [show remR F (x, s) = (rem F (x, s), 0) by unfold remR; rw [if_pos ⟨HV.out.va, HP.out⟩, if_pos HHas.out]] at HREM
  clear h1 h2 h3 h4 h5 h6 hxf
  go_wp2_with fail
  go_region_with
    (first
      | (go_at_call 66
         refine HREM.out.mono ?_
         rintro e w5 ⟨v5, rfl, ho5, hb5⟩
         obtain ⟨A5, n5, c5, rfl, hx5⟩ := ho5.shape
         have HO5 := Lib.hid ho5
         have HB5 := Lib.hid (Below.then (below_drewN (Below.refl w4.heap.size w4) 1) hb5 (Nat.le_refl _))
         have m0 : w5.cell? ⟨p, 0, none⟩ = some (.slice Af nf cf) := (HB5.out.cell (p := ⟨p, 0, none⟩) hpw).trans k0
         have m1 : w5.cell? ⟨w2.heap.size, 0, none⟩ = some (.int .i64 x) := (HE4.out.go HB5.out).cell0
         have m2 : w5.cell? ⟨w2.heap.size, 1, none⟩ = some (.int .i64 s) := (HE4.out.go HB5.out).cell1
         have m3 : w5.frozen? ⟨p, 0, none⟩ = false := frozen_of_row w5 p 0 _ _ ((HB5.out.block p hpw).trans HBLK.out)
         clear ho5 hb5 hx5))
  all_goals
    have hp4 : w.heap.size ≠ p := by have := HAL.out.lt; omega
    have hp5 : w2.heap.size ≠ p := by have := HAL.out.lt; omega
    have HBL6 : Hid ((w5.setCell ⟨p, 0, none⟩ (.slice A5 n5 c5)).heap[p]? = some (.cells #[.slice A5 n5 c5, va] 108 (0, 0))) := Lib.hid (heap_setCell_same w5 p 0 _ _ _ ((HB5.out.block p hpw).trans HBLK.out))
    have HVA6 : Hid (OwnE 31 (w5.setCell ⟨p, 0, none⟩ (.slice A5 n5 c5)) 0 va A) := Lib.hid ((HVA.out.below HB5.out).setc (fun e => (HC.out.2.2 p e).2.1 rfl) _)
    have HVF6 : Hid (OwnE 31 (w5.setCell ⟨p, 0, none⟩ (.slice A5 n5 c5)) w4.heap.size (.slice A5 n5 c5) (rem F (x, s))) := Lib.hid (HO5.out.apart (a := ⟨p, 0, none⟩) hpw _)
    have HBX6 : Hid (Box (w5.setCell ⟨p, 0, none⟩ (.slice A5 n5 c5)) w.heap.size 0 0) := Lib.hid ((HBX4.out.go HB5.out).setc hp4 _)
    have HE6 : Hid (Box (w5.setCell ⟨p, 0, none⟩ (.slice A5 n5 c5)) w2.heap.size x s) := Lib.hid ((HE4.out.go HB5.out).setc hp5 _)
    have HK6 : Hid (Kept c k w (w5.setCell ⟨p, 0, none⟩ (.slice A5 n5 c5))) := Lib.hid ((Kept.ofBelow (Below.then HB4.out HB5.out (Nat.le_refl _))).trans (Kept.ofGrown (grownBy_setCell' w5 p _) (fun g e => by cases e; exact HC.out.1)))
    have hz6 : w4.heap.size ≤ (w5.setCell ⟨p, 0, none⟩ (.slice A5 n5 c5)).heap.size := by have := HB5.out.size; simpa [World.setCell] using this
    generalize w5.setCell ⟨p, 0, none⟩ (.slice A5 n5 c5) = w6 at *
    rename_i hHeld
    obtain ⟨Aa, na, ca, rfl, hxa⟩ := HVA6.out.shape
    have k3 : w6.cell? ⟨p, 1, none⟩ = some (.slice Aa na ca) := cell_of_row w6 p 1 _ _ _ HBL6.out
    have k4 := HE6.out.cell0
    have k5 := HE6.out.cell1
    have k6 : w6.frozen? ⟨p, 1, none⟩ = false := frozen_of_row w6 p 1 _ _ HBL6.out
    clear m0 m1 m2 m3 k0 k1 k2 hxa HB5 HO5 HVF HVA HBLK HXF HREM HBX4 HE4
    have hp6 : p < w6.heap.size := (Array.getElem?_eq_some_iff.1 HBL6.out).1
    have HINS := Lib.hid (insert1_any (.slice Aa na ca) A 0 i w6.heap.size x s (w6.drew.alloc (.cells #[.int .i64 x, .int .i64 s] 31)) ((HVA6.out.below (below_drewN (Below.refl _ _) 1)).alloc _) HI.out.1 (by omega) (Nat.zero_le _) (heap_alloc_new w6.drew _)
      (fun e => by have := HVA6.out.blk_lt e; omega) (fun z hz => by simp at hz; subst hz; simp only; omega))
    have HB7 : Hid (Below w6.heap.size w6 (w6.drew.alloc (.cells #[.int .i64 x, .int .i64 s] 31))) := Lib.hid ((below_drewN (Below.refl _ _) 1).alloc (Nat.le_refl _) _)
    have hz7 : w6.heap.size < (w6.drew.alloc (.cells #[.int .i64 x, .int .i64 s] 31)).heap.size := by simp
    have k3' := cell_under k3 (.cells #[.int .i64 x, .int .i64 s] 31)
    go_wp2_with fail
    go_region_with
      (first
        | (go_at_call 67
           refine HINS.out.mono ?_
           rintro e w8 ⟨v8, rfl, ho8, hg8, hv8⟩
           obtain ⟨A8, n8, c8, rfl, hx8⟩ := ho8.shape
           have HO8 := Lib.hid ho8
           have HG8 := Lib.hid hg8
           have HV8 := Lib.hid hv8
           have HBL8 : Hid (w8.heap[p]? = some (.cells #[.slice A5 n5 c5, .slice Aa na ca] 108 (0, 0))) := Lib.hid ((hg8.block p (Nat.lt_trans hp6 hz7) (fun e => (HC.out.2.2 p e.symm).2.1 rfl)).trans ((HB7.out.block p hp6).trans HBL6.out))
           have q1 : w8.cell? ⟨p, 1, none⟩ = some (.slice Aa na ca) := cell_of_row w8 p 1 _ _ _ HBL8.out
           have q2 : w8.frozen? ⟨p, 1, none⟩ = false := frozen_of_row w8 p 1 _ _ HBL8.out
           clear ho8 hg8 hv8 hx8))
    all_goals
      have c1 := HC.out.1
      have c2 := HC.out.2.2
      have b1 : ∀ g, (Value.slice A5 n5 c5).ownBlock = some g → w4.heap.size ≤ g ∧ g < w6.heap.size := fun g hg => ⟨HVF6.out.blk_ge hg, HVF6.out.blk_lt hg⟩
      have b2 : ∀ g, (Value.slice Aa na ca).ownBlock = some g → g < w.heap.size := HVB.out
      have b3 : ∀ g, (Value.slice A8 n8 c8).ownBlock = some g → (g < w.heap.size ∧ c g = k ∧ g ≠ p) ∨ w6.heap.size < g := fun g hg => by
        rcases HV8.out with e | e
        · rw [e] at hg
          exact .inl ⟨b2 g hg, (c2 g hg).1, (c2 g hg).2.1⟩
        · rw [e] at hg
          cases hg
          exact .inr hz7
      have f1 := ((HVF6.out.below HB7.out).grown HG8.out (fun g hg e => by have := b1 g hg; have := b2 g e; omega)).setc (b := p) (o := 1) (fun e => by have := b1 p e; omega) (.slice A8 n8 c8)
      have f2 := HO8.out.setc (b := p) (o := 1) (fun e => by have := b3 p e; omega) (.slice A8 n8 c8)
      have f3 := ((HBX6.out.go HB7.out).grown HG8.out (fun e => by have := b2 _ e; omega)).setc (b' := p) (o := 1) hp4 (.slice A8 n8 c8)
      have f4 := ((HE6.out.go HB7.out).grown HG8.out (fun e => by have := b2 _ e; omega)).setc (b' := p) (o := 1) hp5 (.slice A8 n8 c8)
      have f5 := ((HK6.out.trans (Kept.ofBelow HB7.out)).grown HG8.out (fun g hg => (c2 g hg).1)).own (b := p) (o := 1) c1 (.slice A8 n8 c8)
      have f6 : (w8.setCell ⟨p, 1, none⟩ (.slice A8 n8 c8)).heap[p]? = some (.cells #[.slice A5 n5 c5, .slice A8 n8 c8] 108 (0, 0)) := heap_setCell_same w8 p 1 _ _ _ HBL8.out
      generalize w8.setCell ⟨p, 1, none⟩ (.slice A8 n8 c8) = w9 at *
      have HF1 := Lib.hid (f1.down (Nat.zero_le _))
      have HF2 := Lib.hid f2
      have HF3 := Lib.hid f3
      have HF5 := Lib.hid f5
      have HF6 := Lib.hid f6
      have HD : Hid ((∀ g, (Value.slice A5 n5 c5).ownBlock = some g → w4.heap.size ≤ g ∧ g < w6.heap.size) ∧ ∀ g, (Value.slice A8 n8 c8).ownBlock = some g → (g < w.heap.size ∧ c g = k ∧ g ≠ p) ∨ w6.heap.size < g) := Lib.hid ⟨b1, b3⟩
      have e0 := f4.cell0
      have e1 := f4.cell1
      have r0 := f3.cell0
      have r1 := f3.cell1
      have r2 := f3.fr0
      have r3 := f3.fr1
      clear f1 f2 f3 f4 f5 f6 b1 b2 b3 c2 HVF6 HVA6 HBX6 HE6 HK6 HBL6 HBL8 HO8 HG8 HV8 HINS k3 k4 k5 k6 k3' q1 q2
      go_wp2
      have g3 := HF3.out.set x s
      have g1 := (HF1.out.setc (b := w.heap.size) (o := 0) (fun e => by have := HD.out.1 _ e; have := HF3.out.lt; omega) (.int .i64 x)).setc (b := w.heap.size) (o := 1) (fun e => by have := HD.out.1 _ e; omega) (.int .i64 s)
      have g2 := (HF2.out.setc (b := w.heap.size) (o := 0) (fun e => by have := HD.out.2 _ e; omega) (.int .i64 x)).setc (b := w.heap.size) (o := 1) (fun e => by have := HD.out.2 _ e; omega) (.int .i64 s)
      have g5 := (HF5.out.above (b := w.heap.size) (o := 0) (Nat.le_refl _) (.int .i64 x)).above (b := w.heap.size) (o := 1) (Nat.le_refl _) (.int .i64 s)
      have g6 := (Below.heap_setCell (w9.setCell ⟨w.heap.size, 0, none⟩ (.int .i64 x)) ⟨w.heap.size, 1, none⟩ (.int .i64 s) p (fun e => hp4 e.symm)).trans ((Below.heap_setCell w9 ⟨w.heap.size, 0, none⟩ (.int .i64 x) p (fun e => hp4 e.symm)).trans HF6.out)
      generalize (w9.setCell ⟨w.heap.size, 0, none⟩ (.int .i64 x)).setCell ⟨w.heap.size, 1, none⟩ (.int .i64 s) = w10 at *
      have k0 := g3.cell0
      have k1 := g3.cell1
      refine bodyPost_ret (v := .tuple #[.agg #[.int .i64 x, .int .i64 s], .int .i64 0]) (by simp [results, Try.results53, go_sem, k0, k1]) rfl ⟨rfl, ⟨_, _, g6, g1, g2, rc_is (.inl c1), fun g hg => ?_, fun g hg => ?_⟩, g5⟩
      · have := HD.out.1 g hg
        exact ⟨rc_is (.inr (by omega)), by omega⟩
      · refine ⟨rc_is ?_, ?_, fun e => ?_⟩
        · have := HD.out.2 g hg
          omega
        · have := HD.out.2 g hg
          omega
        · have := HD.out.2 g hg
          have := HD.out.1 g e
          omega
end Go.Proofs.Ytfchccgajcjbbaa
