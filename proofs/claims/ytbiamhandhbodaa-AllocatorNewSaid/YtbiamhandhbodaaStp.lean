/-
  The laws' own helpers of layer 6: an allocator beside its model and the extents that were ever allocated; contracts of the comparison of the two, of the choice of an extent and of a number. Conditions: at most nine hundred extents.
-/
import Derived.Test.YtbiamhandhbodaaAlcF
import Derived.Test.YtbiamhandhbodaaMdlA
import Derived.Test.YtbiamhandhbodaaMdlS
import Derived.Test.YtbiamhandhbodaaLst
import Derived.Test.YtbiamhandhbodaaAwake
namespace Go.Proofs.Ytbiamhandhbodaa
open Go.ChangeShapes Go.WideShapes Go.ChangeAt Go.RowKit
set_option maxHeartbeats 4000000
set_option maxRecDepth 100000

/-- An allocator at p, its model at q, and the extents that were ever allocated, each in memory of its own. -/
structure St (w : World) (c : Nat → Nat) (p q : Nat) (n : Int) (F A U L : List (Int × Int)) (v : Value) : Prop where
  al : Alc w c 1 p F A
  mo : Mdl w c 2 q n U
  gd : Gd n F A
  pm : A.Perm U
  ev : OwnE 39 w 0 v L
  evc : ∀ g, v.ownBlock = some g → c g = 3
  evp : ∀ x ∈ L, Pr x.1 x.2
section
variable {w w' : World} {c c' : Nat → Nat} {p q : Nat} {n : Int} {F A U L F' A' U' : List (Int × Int)} {v : Value}
theorem St.go (h : St w c p q n F A U L v) (hb : Below w.heap.size w w') : St w' c p q n F A U L v := ⟨h.al.go hb, h.mo.go hb, h.gd, h.pm, h.ev.below hb, h.evc, h.evp⟩
theorem St.len (h : St w c p q n F A U L v) : A.length = U.length := h.pm.length_eq
end
theorem alike_any (w : World) (c : Nat → Nat) (p q : Nat) (n : Int) (F A U : List (Int × Int)) (ha : Alc w c 1 p F A) (hm : Mdl w c 2 q n U) (hg : Gd n F A) (hp : A.Perm U) (hU : U.length ≤ 900) :
    Calls Try.prog 10 #[.pointer (some ⟨p, 0, none⟩), .pointer (some ⟨q, 0, none⟩)] w (Tell w true) := by
  have hA : A.length ≤ 900 := by rw [hp.length_eq]; exact hU
  have hF : F.length ≤ 1000000 := by have := gd_flen hg; omega
  have HA := Lib.hid ha
  have HM := Lib.hid hm
  have HG := Lib.hid hg
  have HP := Lib.hid hp
  have H1 := Lib.hid (freeList_any c 1 p F A w ha hF)
  clear ha hm hg hp
  go_enter Try.func10, Try.ntmps10
  go_wp2_with fail
  refine H1.out.mono ?_
  rintro e w1 ⟨v1, rfl, ho1, hb1⟩
  obtain ⟨A1, n1, c1, rfl, hx1⟩ := ho1.shape
  have HB1 := Lib.hid hb1
  have HX1 := Lib.hid hx1
  clear H1 ho1 hb1 hx1
  go_wp2_with fail
  refine (freeListR_any c 2 q n F A U w1 (HM.out.go HB1.out) HG.out HP.out hU).mono ?_
  rintro e w2 ⟨v2, rfl, ho2, hb2⟩
  obtain ⟨A2, n2, c2, rfl, hx2⟩ := ho2.shape
  have HX1 := Lib.hid (HX1.out.go hb2)
  have HX2 := Lib.hid hx2
  have HB2 := Lib.hid (Below.then HB1.out hb2 (Nat.le_refl _))
  clear ho2 hb2 hx2 HB1
  go_wp2_with fail
  refine (same_yes A1 A2 n1 n2 c1 c2 F w2 HX1.out HX2.out).mono ?_
  rintro e w3 ⟨rfl, hb3⟩
  have HB3 := Lib.hid (Below.then HB2.out hb3 (Nat.le_refl _))
  clear hb3 HB2 HX1 HX2
  go_wp2_with fail
  refine (listed_any c 1 p F A w3 (HA.out.go HB3.out) (by omega)).mono ?_
  rintro e w4 ⟨v1, rfl, ho1, hb1⟩
  obtain ⟨A3, n3, c3, rfl, hx1⟩ := ho1.shape
  have HB4 := Lib.hid (Below.then HB3.out hb1 (Nat.le_refl _))
  have HX1 := Lib.hid hx1
  clear ho1 hb1 hx1 HB3
  go_wp2_with fail
  refine (sortedR_any c 2 q n F A U w4 (HM.out.go HB4.out) HG.out HP.out hU).mono ?_
  rintro e w5 ⟨v2, rfl, ho2, hb2⟩
  obtain ⟨A4, n4, c4, rfl, hx2⟩ := ho2.shape
  have HX1 := Lib.hid (HX1.out.go hb2)
  have HX2 := Lib.hid hx2
  have HB5 := Lib.hid (Below.then HB4.out hb2 (Nat.le_refl _))
  clear ho2 hb2 hx2 HB4
  go_wp2_with fail
  refine (same_yes A3 A4 n3 n4 c3 c4 A w5 HX1.out HX2.out).mono ?_
  rintro e w6 ⟨rfl, hb6⟩
  have HB6 := Lib.hid (Below.then HB5.out hb6 (Nat.le_refl _))
  clear hb6 HB5 HX1 HX2
  go_wp2
  go_ret
  exact ⟨rfl, HB6.out⟩

/-- A number of 64 bits. -/
def I64 (x : Int) : Prop := -9223372036854775808 ≤ x ∧ x ≤ 9223372036854775807
def PickE (w : World) (e : Ending) (w' : World) : Prop := ∃ x y, e = .returned (.agg #[.int .i64 x, .int .i64 y]) ∧ I64 x ∧ I64 y ∧ Below w.heap.size w w'
theorem pick_any (Ae : Option Addr) (ne ce : Nat) (L : List (Int × Int)) (k h : Int) (w : World) (hx : Exs w w.heap.size Ae ne ce L) (hp : ∀ x ∈ L, Pr x.1 x.2) (hn : ne ≤ 900) (k0 : 0 ≤ k) (h0 : 0 ≤ h) (h1 : h ≤ 255) :
    Calls Try.prog 30 #[.slice Ae ne ce, .int .i64 k, .int .i64 h] w (PickE w) := by
  have hb0 : Below w.heap.size w (w.alloc (.cells #[.int .i64 0, .int .i64 0] 39)) := (Below.refl _ _).alloc (Nat.le_refl _) _
  have HBX := Lib.hid (Box.new (w := w) (x := 0) (y := 0))
  have HB0 := Lib.hid hb0
  have HX := Lib.hid (hx.go hb0)
  have hcap := hx.cap
  have hsm := hx.small
  unfold maxLen at hsm
  have HP := Lib.hid hp
  clear hx hp hb0
  rcases Nat.eq_zero_or_pos ne with hz | hz
  · subst hz
    go_enter Try.func30, Try.ntmps30
    go_wp2
    exact bodyPost_ret (v := .agg #[.int .i64 0, .int .i64 16]) (by simp [results, Try.results30, go_sem]) rfl ⟨0, 16, rfl, by unfold I64; omega, by unfold I64; omega, (Below.refl _ _).alloc (Nat.le_refl _) _⟩
  · have hne : ¬ ((ne : Int) = 0) := by omega
    have hm0 : 0 ≤ k % (ne : Int) := Int.emod_nonneg _ hne
    have hm1 : k % (ne : Int) < (ne : Int) := Int.emod_lt_of_pos _ (by omega)
    obtain ⟨j, hj⟩ : ∃ j : Nat, k % (ne : Int) = (j : Int) := ⟨(k % (ne : Int)).toNat, by omega⟩
    have htm : k.tmod (ne : Int) = (j : Int) := by rw [Int.tmod_eq_emod_of_nonneg k0]; exact hj
    have hjn : j < ne := by omega
    obtain ⟨b, o, u, v, hu, rfl, hb, hc1, hc2, x0, x1, y0, y1⟩ := HX.out.at_ hjn
    have hpr := HP.out _ (List.mem_of_getElem? hu)
    have p1 := hpr.1
    have p2 := hpr.2.1
    have p3 := hpr.2.2
    simp only at p1 p2 p3
    have hj1 : (j : Int) < (ne : Int) := by omega
    have hbw : b < w.heap.size + 1 := by simpa using hb
    clear hu hpr hm0 hm1 HP HX hj
    by_cases h8 : h % 9 = 8
    · go_enter Try.func30, Try.ntmps30
      go_wp2
      exact bodyPost_ret (v := .agg #[.int .i64 (u + 16), .int .i64 v]) (by simp [results, Try.results30, go_sem]) rfl ⟨_, _, rfl, by unfold I64; omega, by unfold I64; omega, ((Below.refl _ _).alloc (Nat.le_refl _) _).alloc (by simp) _⟩
    · by_cases h7 : h % 9 = 7
      · go_enter Try.func30, Try.ntmps30
        go_wp2
        exact bodyPost_ret (v := .agg #[.int .i64 u, .int .i64 (v - 16)]) (by simp [results, Try.results30, go_sem]) rfl ⟨_, _, rfl, by unfold I64; omega, by unfold I64; omega, ((Below.refl _ _).alloc (Nat.le_refl _) _).alloc (by simp) _⟩
      · go_enter Try.func30, Try.ntmps30
        go_wp2
        exact bodyPost_ret (v := .agg #[.int .i64 u, .int .i64 v]) (by simp [results, Try.results30, go_sem]) rfl ⟨_, _, rfl, by unfold I64; omega, by unfold I64; omega, ((Below.refl _ _).alloc (Nat.le_refl _) _).alloc (by simp) _⟩

def NumAny (w : World) (e : Ending) (w' : World) : Prop := ∃ z : Int, e = .returned (.int .i64 z) ∧ Below w.heap.size w w'
theorem size_any (a b d : Int) (w : World) (ha : (Lit.int .u8 a).wf = true) (hb : (Lit.int .u8 b).wf = true) (hd : (Lit.int .u8 d).wf = true) :
    Calls Try.prog 28 #[.agg #[.int .u8 a, .int .u8 b, .int .u8 d]] w (NumAny w) := by
  have a1 := Go.bounds_u8 ha
  have b1 := Go.bounds_u8 hb
  have d1 := Go.bounds_u8 hd
  clear ha hb hd
  by_cases h0 : d % 8 = 0
  · go_enter Try.func28, Try.ntmps28
    go_wp2
    go_ret
    exact ⟨_, rfl, (Below.refl _ _).alloc (Nat.le_refl _) _⟩
  · by_cases h1 : d % 8 = 1
    · go_enter Try.func28, Try.ntmps28
      go_wp2
      go_ret
      exact ⟨_, rfl, (Below.refl _ _).alloc (Nat.le_refl _) _⟩
    · go_enter Try.func28, Try.ntmps28
      go_wp2
      go_ret
      exact ⟨_, rfl, (Below.refl _ _).alloc (Nat.le_refl _) _⟩
end Go.Proofs.Ytbiamhandhbodaa
