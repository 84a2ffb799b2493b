/-
  The law AllocatorUndo as a walk: it returns true and changes nothing that was there. No conditions.
-/
import Derived.Test.YtbiamhandhbodaaRun
namespace Go.Proofs.Ytbiamhandhbodaa
open Go.ChangeShapes Go.WideShapes Go.ChangeAt Go.RowKit
set_option maxHeartbeats 8000000
set_option maxRecDepth 100000

theorem gd_uniq {n : Int} {F F' A : List (Int × Int)} (h : Gd n F A) (h' : Gd n F' A) : F = F' := ext_va h.va h'.va fun t => by rw [h.fm, h'.fm]
theorem put_at {A : List (Int × Int)} {i : Nat} {e : Int × Int} (hi : i ≤ A.length) : (A.take i ++ e :: A.drop i)[i]? = some e := by
  rw [List.getElem?_append_right (by rw [List.length_take]; omega), List.length_take, show i - min i A.length = 0 by omega]
  rfl
theorem put_cut {A : List (Int × Int)} {i : Nat} {e : Int × Int} (hi : i ≤ A.length) : (A.take i ++ e :: A.drop i).take i ++ (A.take i ++ e :: A.drop i).drop (i + 1) = A := by
  have hl : (A.take i).length = i := by rw [List.length_take]; omega
  have h1 : (A.take i ++ e :: A.drop i).take i = A.take i := by rw [List.take_append_of_le_length (by omega), List.take_of_length_le (by omega)]
  have h2 : (A.take i ++ e :: A.drop i).drop (i + 1) = A.drop i := by
    rw [List.drop_append, hl, List.drop_eq_nil_of_le (by omega), show i + 1 - i = 1 by omega]
    rfl
  rw [h1, h2, List.take_append_drop]
theorem put_not {n : Int} {F A : List (Int × Int)} {i : Nat} {e : Int × Int} (h : Gd n F (A.take i ++ e :: A.drop i)) : e ∉ A := by
  have h1 := gd_nodup h
  have h2 := (List.perm_middle (a := e) (l₁ := A.take i) (l₂ := A.drop i))
  rw [List.take_append_drop] at h2
  exact (List.nodup_cons.1 ((h2.nodup_iff).1 h1)).1
theorem er_small {z : Int} (h1 : 1 ≤ z) (h2 : z ≤ 300) : erR z = 0 := (mid_R h1 (by omega)).2.2
/-- The choice for a number between 1 and 300. -/
theorem ch_two {F : List (Int × Int)} {z : Int} (he : erR z = 0) : (best (szR z) F = none ∧ chR F z = ((0, 0), 18)) ∨ ∃ y, best (szR z) F = some y ∧ chR F z = ((y.1, szR z), 0) := by
  unfold chR
  rw [if_pos he]
  cases hb : best (szR z) F with
  | none => exact .inl ⟨rfl, rfl⟩
  | some y => exact .inr ⟨y, rfl, rfl⟩

theorem allocatorUndo_walk (r : Int) (At : Option Addr) (m ct : Nat) (kk : Int) (w : World) (hr : (Lit.int .u16 r).wf = true) (ht : Tri w w.heap.size At m ct) (hk : (Lit.int .u16 kk).wf = true) :
    Calls Try.prog 7 #[.int .u16 r, .slice At m ct, .int .u16 kk] w fun e w' => e = .returned (.bool true) ∧ Below w.heap.size w w' := by
  have hr1 := Go.bounds_u16 hr
  have hk1 := Go.bounds_u16 hk
  have hn0 : 0 ≤ r % 2000 := by omega
  have hn1 : r % 2000 ≤ 1048576 := by omega
  have hz0 : 0 ≤ kk % 300 := by omega
  have hz1 : kk % 300 < 300 := by omega
  have H := Lib.hid (runs_any At m ct (r % 2000) w ht hn0 hn1)
  clear ht hr hk
  go_enter Try.func7, Try.ntmps7
  go_wp2_with fail
  generalize r % 2000 = n at *
  refine H.out.mono ?_
  rintro e w1 ⟨c0, p, F, A, rfl, ha, hg, hl, hb, hc⟩
  have HA := Lib.hid (ha.recol (c' := rc c0 w1.heap.size 9) (fun g hg => rc_old hg))
  have HG := Lib.hid hg
  have HB := Lib.hid hb
  have hw1 := hb.size
  have HC : Hid ((∀ g, g < w.heap.size → rc c0 w1.heap.size 9 g = 0) ∧ ∀ g, w1.heap.size ≤ g → rc c0 w1.heap.size 9 g = 9) := Lib.hid ⟨fun g hg => by rw [rc_old (by omega)]; exact hc g hg, fun g hg => rc_new hg⟩
  generalize rc c0 w1.heap.size 9 = c at *
  have hF : F.length ≤ 1000000 := by have := gd_flen hg; omega
  clear H ha hg hb hc
  go_wp2_with fail
  refine (freeList_any c 1 p F A w1 HA.out hF).mono ?_
  rintro e w2 ⟨v, rfl, ho, hb⟩
  obtain ⟨Aw, nw, cw, rfl, _⟩ := ho.shape
  have HO := Lib.hid ho
  have HA2 := Lib.hid (HA.out.go hb)
  have HB2 := Lib.hid (Below.then HB.out hb (by omega))
  have hw2 := hb.size
  clear ho hb HA HB
  have he0 : erR (1 + kk % 300) = 0 := er_small (by omega) (by omega)
  have HS := Lib.hid (sz_ge he0)
  have HT := Lib.hid (ch_two (F := F) he0)
  clear he0
  go_wp2_with fail
  generalize 1 + kk % 300 = z at *
  rcases HT.out with ⟨hb, hch⟩ | ⟨y, hb, hch⟩
  · have H3 := Lib.hid (alloc_no c 1 p F A z w2 HA2.out hF (by rw [hch]; simp))
    rw [hch] at H3
    clear hb hch HT
    refine H3.out.mono ?_
    rintro e w3 ⟨rfl, hb⟩
    have hb4 : Below w3.heap.size w3 (w3.alloc (.cells #[.int .i64 0, .int .i64 0] 39)) := (Below.refl _ _).alloc (Nat.le_refl _) _
    have hb' := Below.then hb hb4 (Nat.le_refl _)
    have HA4 := Lib.hid (HA2.out.go hb')
    have HO4 := Lib.hid (HO.out.below hb')
    have HB4 := Lib.hid (Below.then HB2.out hb' (by omega))
    clear hb hb4 hb' H3 HO HA2 HB2
    go_wp2_with fail
    generalize w3.alloc (.cells #[.int .i64 0, .int .i64 0] 39) = w4 at *
    refine (awake6_any w4).mono ?_
    rintro e w5 ⟨rfl, hb⟩
    have HA5 := Lib.hid (HA4.out.go hb)
    have HO5 := Lib.hid (HO4.out.below hb)
    have HB5 := Lib.hid (Below.then HB4.out hb (by have := HB4.out.size; omega))
    clear hb HA4 HO4 HB4
    go_wp2_with fail
    refine (freeList_any c 1 p F A w5 HA5.out hF).mono ?_
    rintro e w6 ⟨v, rfl, ho, hb⟩
    obtain ⟨Av, nv, cv, rfl, hxv⟩ := ho.shape
    have HX6 := Lib.hid hxv
    have HO6 := Lib.hid (HO5.out.below hb).exs
    have HB6 := Lib.hid (Below.then HB5.out hb (by have := HB5.out.size; omega))
    clear ho hb hxv HA5 HO5 HB5
    go_wp2_with fail
    refine (same_yes Av Aw nv nw cv cw F w6 HX6.out HO6.out).mono ?_
    rintro e w7 ⟨rfl, hb⟩
    have HB7 := Lib.hid (Below.then HB6.out hb (by have := HB6.out.size; omega))
    clear hb HB6
    go_wp2
    go_ret
    exact ⟨rfl, HB7.out⟩
  · obtain ⟨i, hi⟩ := lb_ex HG.out y.1
    obtain ⟨g1, g2, g3⟩ := gd_alloc HG.out hb HS.out hi
    have H3 := Lib.hid (alloc_yes c 1 p i F A n z y.1 (szR z) w2 HA2.out HG.out (by omega) hch g2 g3 hi)
    have hlen : (A.take i ++ (y.1, szR z) :: A.drop i).length ≤ 25 := by rw [List.length_append, List.length_take, List.length_cons, List.length_drop]; have := hi.1; omega
    have HAT := Lib.hid (put_at (e := (y.1, szR z)) hi.1)
    have HCUT := Lib.hid (put_cut (e := (y.1, szR z)) hi.1)
    have HNOT := Lib.hid (put_not g1)
    have HG1 := Lib.hid g1
    have HINS : Hid (ins (rem F (y.1, szR z)) (y.1, szR z) = F) := Lib.hid (by
      have h1 := (gd_free g1 HAT.out).1
      rw [HCUT.out] at h1
      exact gd_uniq h1 HG.out)
    generalize A.take i ++ (y.1, szR z) :: A.drop i = A' at *
    generalize szR z = s at *
    generalize y.1 = x at *
    clear hb hch HT hi g1 g2 g3
    refine H3.out.mono ?_
    rintro e w3 ⟨rfl, ha3, hk3⟩
    have hz3 := hk3.size
    have HB3 := Lib.hid (Below.trans HB2.out (hk3.below (B := w.heap.size) (fun g hg => by rw [HC.out.1 g hg]; omega) (by omega)))
    have HO3 := Lib.hid (HO.out.keptC hk3 (fun g hg => by rw [HC.out.2 g (HO.out.blk_ge hg)]; omega))
    have HA3 := Lib.hid (ha3.recol (c' := rc (rc c w2.heap.size 1) w3.heap.size 9) (fun g hg => rc_old hg))
    have HOB : Hid (∀ g, (Value.slice Aw nw cw).ownBlock = some g → w1.heap.size ≤ g ∧ g < w2.heap.size) := Lib.hid (fun g hg => ⟨HO.out.blk_ge hg, HO.out.blk_lt hg⟩)
    have HC3 : Hid ((∀ g, g < w.heap.size → rc (rc c w2.heap.size 1) w3.heap.size 9 g = 0) ∧ (∀ g, w1.heap.size ≤ g → g < w2.heap.size → rc (rc c w2.heap.size 1) w3.heap.size 9 g = 9) ∧ ∀ g, w3.heap.size ≤ g → rc (rc c w2.heap.size 1) w3.heap.size 9 g = 9) :=
      Lib.hid ⟨fun g hg => by rw [rc_old (by omega), rc_old (by omega)]; exact HC.out.1 g hg, fun g hg hg' => by rw [rc_old (by omega), rc_old hg']; exact HC.out.2 g hg, fun g hg => rc_new hg⟩
    generalize rc (rc c w2.heap.size 1) w3.heap.size 9 = c3 at *
    have hb4 : Below w3.heap.size w3 (w3.alloc (.cells #[.int .i64 x, .int .i64 s] 39)) := (Below.refl _ _).alloc (Nat.le_refl _) _
    have HE4 := Lib.hid (Box.new (w := w3) (x := x) (y := s))
    have HA4 := Lib.hid (HA3.out.go hb4)
    have HO4 := Lib.hid (HO3.out.below hb4)
    have HB4 := Lib.hid (Below.then HB3.out hb4 (by have := HB3.out.size; omega))
    clear ha3 hk3 hb4 H3 HO HA2 HB2 HA3 HO3 HB3 HC
    go_wp2_with fail
    generalize w3.alloc (.cells #[.int .i64 x, .int .i64 s] 39) = w4 at *
    have hz4 : w3.heap.size < w4.heap.size := HE4.out.lt
    refine (awake6_any w4).mono ?_
    rintro e w5 ⟨rfl, hb⟩
    have HA5 := Lib.hid (HA4.out.go hb)
    have HO5 := Lib.hid (HO4.out.below hb)
    have HE5 := Lib.hid (HE4.out.go hb)
    have HB5 := Lib.hid (Below.then HB4.out hb (by have := HB4.out.size; omega))
    have hz5 := hb.size
    have e0 := HE5.out.cell0
    have e1 := HE5.out.cell1
    clear hb HA4 HO4 HB4 HE4
    go_wp2_with fail
    have H6 := Lib.hid (free_yes c3 1 p i (rem F (x, s)) A' n x s w5 HA5.out HG1.out (by omega) HAT.out)
    rw [HINS.out, HCUT.out] at H6
    refine H6.out.mono ?_
    rintro e w6 ⟨rfl, ha6, hk6⟩
    have HA6 := Lib.hid ha6
    have HO6 := Lib.hid (HO5.out.keptC hk6 (fun g hg => by have := HOB.out g hg; rw [HC3.out.2.1 g this.1 this.2]; omega))
    have HE6 : Hid (Box w6 w3.heap.size x s) := Lib.hid ((hk6.block _ HE5.out.lt (by rw [HC3.out.2.2 _ (Nat.le_refl _)]; omega)).trans HE5.out)
    have HB6 := Lib.hid (Below.trans HB5.out (hk6.below (B := w.heap.size) (fun g hg => by rw [HC3.out.1 g hg]; omega) (by omega)))
    clear ha6 hk6 H6 HA5 HO5 HB5 HE5 e0 e1
    go_wp2_with fail
    refine (freeList_any _ 1 p F A w6 HA6.out hF).mono ?_
    rintro e w7 ⟨v, rfl, ho, hb⟩
    obtain ⟨Av, nv, cv, rfl, hxv⟩ := ho.shape
    have HX7 := Lib.hid hxv
    have HO7 := Lib.hid (HO6.out.below hb).exs
    have HA7 := Lib.hid (HA6.out.go hb)
    have HE7 := Lib.hid (HE6.out.go hb)
    have HB7 := Lib.hid (Below.then HB6.out hb (by have := HB6.out.size; omega))
    clear ho hb hxv HA6 HO6 HB6 HE6
    go_wp2_with fail
    refine (same_yes Av Aw nv nw cv cw F w7 HX7.out HO7.out).mono ?_
    rintro e w8 ⟨rfl, hb⟩
    have HA8 := Lib.hid (HA7.out.go hb)
    have HE8 := Lib.hid (HE7.out.go hb)
    have HB8 := Lib.hid (Below.then HB7.out hb (by have := HB7.out.size; omega))
    have e0 := HE8.out.cell0
    have e1 := HE8.out.cell1
    clear hb HA7 HE7 HB7 HX7 HO7
    go_wp2_with fail
    refine (free_no _ 1 p F A n x s w8 HA8.out HG.out (by omega) HNOT.out).mono ?_
    rintro e w9 ⟨rfl, hb⟩
    have HB9 := Lib.hid (Below.then HB8.out hb (by have := HB8.out.size; omega))
    clear hb HA8 HE8 HB8 e0 e1
    go_wp2
    go_ret
    exact ⟨rfl, HB9.out⟩
end Go.Proofs.Ytbiamhandhbodaa
