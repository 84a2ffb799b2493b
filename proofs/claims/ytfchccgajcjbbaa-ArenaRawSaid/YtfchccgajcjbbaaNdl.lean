/-
  The reference's model of the allocator in memory: contracts of its FreeList, place, Fits and Has. Conditions: the model's list is a permutation of an allocator's (Gd); at most nine hundred extents.
-/
import Derived.Test.YtfchccgajcjbbaaAlcM
import Derived.Test.YtfchccgajcjbbaaInsR
import Derived.Test.YtfchccgajcjbbaaSizeR
namespace Go.Proofs.Ytfchccgajcjbbaa
open Go.ChangeShapes Go.WideShapes Go.ChangeAt Go.RowKit
set_option maxHeartbeats 4000000
set_option maxRecDepth 100000

/-- The block q is a model of n bytes with the list U; what it writes has the colour k. -/
structure Mdl (w : World) (c : Nat → Nat) (k q : Nat) (n : Int) (U : List (Int × Int)) (X : List Value) (T : TypeId) : Prop where
  ex : ∃ vu, w.heap[q]? = some (.cells (List.toArray (.int .i64 n :: vu :: X)) T (0, 0)) ∧ OwnE 31 w 0 vu U ∧ c q = k ∧ ∀ g, vu.ownBlock = some g → c g = k ∧ g ≠ q
section
variable {c c' : Nat → Nat} {k j q : Nat} {X : List Value} {T : TypeId} {w w' : World} {n : Int} {U : List (Int × Int)}
theorem Mdl.lt (h : Mdl w c k q n U X T) : q < w.heap.size := by
  obtain ⟨vu, h1, _⟩ := h.ex
  exact (Array.getElem?_eq_some_iff.1 h1).1
theorem Mdl.kept (h : Mdl w c k q n U X T) (hk : Kept c j w w') (hjk : j ≠ k) (hc : ∀ g, g < w.heap.size → c' g = c g) : Mdl w' c' k q n U X T := by
  have hlt := h.lt
  obtain ⟨vu, h1, h2, h4, h5⟩ := h.ex
  refine ⟨vu, (hk.block q hlt (by omega)).trans h1, h2.keptC hk (fun g hg => ?_), (hc q hlt).trans h4, fun g hg => ⟨(hc g (h2.blk_lt hg)).trans (h5 g hg).1, (h5 g hg).2⟩⟩
  have := (h5 g hg).1; omega
theorem Mdl.go (h : Mdl w c k q n U X T) (hb : Below w.heap.size w w') : Mdl w' c k q n U X T := h.kept (j := k + 1) (Kept.ofBelow hb) (by omega) (fun _ _ => rfl)
theorem Mdl.open_ (h : Mdl w c k q n U X T) : ∃ Au nu cu, w.cell? ⟨q, 0, none⟩ = some (.int .i64 n) ∧ w.cell? ⟨q, 1, none⟩ = some (.slice Au nu cu) ∧ Exs w w.heap.size Au nu cu U := by
  obtain ⟨vu, h1, h2, _⟩ := h.ex
  obtain ⟨Au, nu, cu, rfl, hx⟩ := h2.shape
  exact ⟨Au, nu, cu, cell_of_row w q 0 _ _ _ h1, cell_of_row w q 1 _ _ _ h1, hx⟩
end
theorem insAll_le {l : List (Int × Int)} : (insAll l).length ≤ l.length := insAll_len (l := l) (r := l.reverse) (by simp)

theorem freeListR_any {X : List Value} {T : TypeId} (c : Nat → Nat) (k q : Nat) (n : Int) (F A U : List (Int × Int)) (w : World) (h : Mdl w c k q n U X T) (hv : Gd n F A) (hp : A.Perm U) (hU : U.length ≤ 900) :
    Calls Try.prog 35 #[.pointer (some ⟨q, 0, none⟩)] w (MadeE w F) := by
  obtain ⟨Au, nu, cu, hc0, hc1, hx⟩ := h.open_
  have HX := Lib.hid hx
  have HC0 := Lib.hid hc0
  have HC1 := Lib.hid hc1
  have hcap := hx.cap
  have hsm := hx.small
  unfold maxLen at hsm
  have hnu : nu ≤ 900 := by have := hx.len; omega
  obtain ⟨hU1, hU2⟩ := gd_pair hv hp
  have HIA := Lib.hid (fun j (hj : j ≤ U.length) => insAll_ok hU1 hU2 hv.n1 (k := j) hj)
  have HFE := Lib.hid (free_eq hv hp)
  have HV := Lib.hid hv
  clear h hc0 hc1 hx hU1 hU2 hp hv
  go_enter Try.func35, Try.ntmps35
  go_wp2
  go_loopw [3, 4] (fun sv iv wr => ∃ (i : Nat) (A' : Option Addr) (n' c' : Nat), i ≤ nu ∧ iv = .int .i64 i ∧ sv = .slice A' n' c' ∧ Hid (OwnE 31 wr w.heap.size (.slice A' n' c') (insAll (U.take i)) ∧ Below w.heap.size w wr)) (fun _ iv _ => nu - (intOf iv).toNat)
  case atStart => exact ⟨0, none, 0, 0, by omega, rfl, rfl, Lib.hid ⟨by simpa [insAll] using OwnE.nil _ _ _, Below.refl _ _⟩⟩
  case round =>
    obtain ⟨i, A', n', c', hi, rfl, rfl, hh⟩ := hrel
    have hcr : wr.cell? ⟨q, 1, none⟩ = some (.slice Au nu cu) := (hh.out.2.cell (p := ⟨q, 1, none⟩) (lt_of_some HC1.out)).trans HC1.out
    by_cases hlt : i < nu
    · obtain ⟨b, o, u, v, hu, rfl, hb, hc1, hc2, x0, x1, y0, y1⟩ := (HX.out.below hh.out.2).at_ hlt
      have hlt' : (i : Int) < (nu : Int) := by omega
      have hlen := HX.out.len
      obtain ⟨v1, v2, v3⟩ := HIA.out i (by omega)
      obtain ⟨v4, v5⟩ := v3 _ hu
      have hn' : n' ≤ 1000 := by
        have h1 := hh.out.1.exs.len
        have h2 := insAll_le (l := U.take i)
        rw [List.length_take] at h2
        omega
      have H := Lib.hid (insertR_in A' n' c' (insAll (U.take i)) u v wr hh.out.1.exs hn' v1 v5)
      rw [show insR (insAll (U.take i)) (u, v) = (ins (insAll (U.take i)) (u, v), 0) by unfold insR; rw [if_pos ⟨v1, v5⟩, if_pos v4], ← insAll_step hu] at H
      clear v1 v2 v3 v4 v5 hu hlen
      go_wp2_with fail
      refine H.out.mono ?_
      rintro e w2 ⟨v2, rfl, ho2, hb2⟩
      obtain ⟨A2, n2, c2, rfl, hx2⟩ := ho2.shape
      have HO2 := Lib.hid (ho2.down (B := w.heap.size) hh.out.2.size)
      have HB2 := Lib.hid (Below.then hh.out.2 hb2 (Nat.le_refl _))
      clear H ho2 hb2 hx2 hh hc1 hc2 hcr
      go_wp2
      go_roundw
      case rel => exact ⟨i + 1, A2, n2, c2, by omega, by go_num, rfl, Lib.hid ⟨HO2.out, HB2.out⟩⟩
      case measure => simp [intOf]; omega
    · obtain rfl : i = nu := by omega
      have hlt' : ¬ (i : Int) < (i : Int) := by omega
      have HT : Hid (U.take i = U) := Lib.hid (List.take_of_length_le (by have := HX.out.len; omega))
      have hcr0 : wr.cell? ⟨q, 0, none⟩ = some (.int .i64 n) := (hh.out.2.cell (p := ⟨q, 0, none⟩) (lt_of_some HC0.out)).trans HC0.out
      rw [HT.out] at hh
      have hn' : n' ≤ 1000 := by
        have h1 := hh.out.1.exs.len
        have h2 := insAll_le (l := U)
        omega
      have H := Lib.hid (cmpR_any A' n' c' (insAll U) n wr hh.out.1.exs hn')
      rw [show cmpR (insAll U) n = (F, 0) by unfold cmpR; rw [if_pos ⟨HFE.out.1, HV.out.n0, HV.out.n1, HFE.out.2.1⟩, HFE.out.2.2]] at H
      go_wp2_with fail
      refine H.out.mono ?_
      rintro e w2 ⟨v2, rfl, ho2, hb2⟩
      obtain ⟨A2, n2, c2, rfl, hx2⟩ := ho2.shape
      have HO2 := Lib.hid (ho2.down (B := w.heap.size) hh.out.2.size)
      have HB2 := Lib.hid (Below.then hh.out.2 hb2 (Nat.le_refl _))
      clear H ho2 hb2 hx2 hh hcr hcr0
      go_wp2
      go_ret
      exact ⟨_, rfl, HO2.out, HB2.out⟩

/-- What place says. -/
def plR (F : List (Int × Int)) (s : Int) : Int × Bool := match best s F with
  | none => (0, false)
  | some x => (x.1, true)
theorem placeR_any {X : List Value} {T : TypeId} (c : Nat → Nat) (k q : Nat) (n s : Int) (F A U : List (Int × Int)) (w : World) (h : Mdl w c k q n U X T) (hv : Gd n F A) (hp : A.Perm U) (hU : U.length ≤ 900) :
    Calls Try.prog 52 #[.pointer (some ⟨q, 0, none⟩), .int .i64 s] w fun e w' => e = .returned (.tuple #[.int .i64 (plR F s).1, .bool (plR F s).2]) ∧ Below w.heap.size w w' := by
  have H := Lib.hid (freeListR_any c k q n F A U w h hv hp hU)
  have hFl : F.length ≤ 1000000 := by have := gd_flen hv; omega
  generalize hr : plR F s = r at *
  have HR := Lib.hid hr
  unfold plR at HR
  clear hr h hv hp
  go_enter Try.func52, Try.ntmps52
  go_wp2_with fail
  refine H.out.mono ?_
  rintro e w2 ⟨v, rfl, ho, hb2⟩
  obtain ⟨Af, nf, cf, rfl, hxf⟩ := ho.shape
  have HX2 := Lib.hid hxf
  have HB2 := Lib.hid hb2
  have hnf : nf ≤ 1000000 := by have := hxf.len; omega
  have hcap := hxf.cap
  have hsm := hxf.small
  unfold maxLen at hsm
  clear H ho hb2 hxf
  go_wp2
  go_loopw [7, 8] (fun sv iv wr => ∃ (i : Nat) (z : Int), i ≤ nf ∧ iv = .int .i64 i ∧ sv = .int .i64 z ∧ Hid (((z = -1 ∧ best s (F.take i) = none) ∨ ∃ (j : Nat) (x : Int × Int), j < i ∧ z = j ∧ F[j]? = some x ∧ best s (F.take i) = some x) ∧ Below w2.heap.size w2 wr)) (fun _ iv _ => nf - (intOf iv).toNat)
  case atStart => exact ⟨0, -1, by omega, rfl, rfl, Lib.hid ⟨.inl ⟨rfl, by simp [best]⟩, Below.refl _ _⟩⟩
  case round =>
    obtain ⟨i, z, hi, rfl, rfl, hh⟩ := hrel
    by_cases hlt : i < nf
    · obtain ⟨b, o, u, v, hx, rfl, hb, hc1, hc2, x0, x1, y0, y1⟩ := (HX2.out.below hh.out.2).at_ hlt
      have HXi := Lib.hid hx
      have hst := best_step (s := s) hx
      have hlt' : (i : Int) < (nf : Int) := by omega
      have hib : ¬ (i : Int) < 0 := by omega
      clear hx
      by_cases hs : s ≤ v
      · have ds : decide (s ≤ v) = true := decide_eq_true hs
        rcases hh.out.1 with ⟨hz, hbn⟩ | ⟨j, xj, hji, hz, hxj, hbs⟩
        · subst hz
          have HNB : Hid (best s (F.take (i + 1)) = some (u, v)) := Lib.hid (by rw [hst, hbn]; simp [bstep, hs])
          have HB3 := Lib.hid hh.out.2
          clear hst hbn hh
          go_wp2
          go_quiet (fail)
          go_wp2
          go_roundw
          case rel => exact ⟨i + 1, i, by omega, by go_num, rfl, Lib.hid ⟨.inr ⟨i, _, by omega, rfl, HXi.out, HNB.out⟩, below_drewN HB3.out _⟩⟩
          case measure => simp [intOf]; omega
        · obtain ⟨xa, xb⟩ := xj
          obtain ⟨b', o', u', v', hx', hA, hb', hc1', hc2', x0', x1', y0', y1'⟩ := (HX2.out.below hh.out.2).at_ (k := j) (by omega)
          cases hA
          rw [hxj] at hx'
          cases hx'
          have hz0 : ¬ (j : Int) < 0 := by omega
          have dz : decide ((j : Int) < 0) = false := decide_eq_false hz0
          have hz1 : (j : Int) < (nf : Int) := by omega
          subst hz
          by_cases hvx : v < xb
          · have dv : decide (v < xb) = true := decide_eq_true hvx
            have HNB : Hid (best s (F.take (i + 1)) = some (u, v)) := Lib.hid (by rw [hst, hbs]; simp [bstep, hs, hvx])
            have HB3 := Lib.hid hh.out.2
            clear hst hbs hh hxj
            go_wp2
            go_quiet (fail)
            go_wp2
            go_roundw
            case rel => exact ⟨i + 1, i, by omega, by go_num, rfl, Lib.hid ⟨.inr ⟨i, _, by omega, rfl, HXi.out, HNB.out⟩, below_drewN HB3.out _⟩⟩
            case measure => simp [intOf]; omega
          · have dv : decide (v < xb) = false := decide_eq_false hvx
            have HNB : Hid (best s (F.take (i + 1)) = some (xa, xb)) := Lib.hid (by rw [hst, hbs]; simp [bstep, hvx])
            have HXJ := Lib.hid hxj
            have HB3 := Lib.hid hh.out.2
            clear hst hbs hh hxj
            go_wp2
            go_quiet (fail)
            go_wp2
            go_roundw
            case rel => exact ⟨i + 1, j, by omega, by go_num, rfl, Lib.hid ⟨.inr ⟨j, _, by omega, rfl, HXJ.out, HNB.out⟩, below_drewN HB3.out _⟩⟩
            case measure => simp [intOf]; omega
      · have ds : decide (s ≤ v) = false := decide_eq_false hs
        have HNB : Hid (((z = -1 ∧ best s (F.take (i + 1)) = none) ∨ ∃ (j : Nat) (x : Int × Int), j < i + 1 ∧ z = j ∧ F[j]? = some x ∧ best s (F.take (i + 1)) = some x)) := Lib.hid (by
          rcases hh.out.1 with ⟨hz, hbn⟩ | ⟨j, xj, hji, hz, hxj, hbs⟩
          · exact .inl ⟨hz, by rw [hst, hbn]; simp [bstep, hs]⟩
          · exact .inr ⟨j, xj, by omega, hz, hxj, by rw [hst, hbs]; simp [bstep, hs]⟩)
        have HB3 := Lib.hid hh.out.2
        clear hst hh
        go_wp2
        go_quiet (fail)
        go_wp2
        go_roundw
        case rel => exact ⟨i + 1, z, by omega, by go_num, rfl, Lib.hid ⟨HNB.out, below_drewN HB3.out _⟩⟩
        case measure => simp [intOf]; omega
    · obtain rfl : i = nf := by omega
      have HB4 := Lib.hid (Below.then HB2.out hh.out.2 (Nat.le_refl _))
      have HT : Hid (F.take i = F) := Lib.hid (List.take_of_length_le (by have := HX2.out.len; omega))
      have hlt' : ¬ (i : Int) < (i : Int) := by omega
      rcases hh.out.1 with ⟨hz, hbn⟩ | ⟨j, xj, hji, hz, hxj, hbs⟩
      · rw [HT.out] at hbn
        rw [hbn] at HR
        subst hz
        clear hbn hh HT
        go_wp2
        go_ret2
        exact ⟨by rw [← HR.out]; rfl, HB4.out⟩
      · obtain ⟨xa, xb⟩ := xj
        obtain ⟨b', o', u', v', hx', rfl, hb', hc1', hc2', x0', x1', y0', y1'⟩ := (HX2.out.below hh.out.2).at_ (k := j) (by omega)
        rw [hxj] at hx'
        cases hx'
        rw [HT.out] at hbs
        rw [hbs] at HR
        have hz0 : ¬ (j : Int) < 0 := by omega
        have hz1 : (j : Int) < (i : Int) := by omega
        subst hz
        clear hbs hh HT hxj
        go_wp2
        go_ret2
        exact ⟨by rw [← HR.out]; rfl, HB4.out⟩

theorem fitsR_any {X : List Value} {T : TypeId} (c : Nat → Nat) (k q : Nat) (n m : Int) (F A U : List (Int × Int)) (w : World) (h : Mdl w c k q n U X T) (hv : Gd n F A) (hp : A.Perm U) (hU : U.length ≤ 900) :
    Calls Try.prog 29 #[.pointer (some ⟨q, 0, none⟩), .int .i64 m] w fun e w' => e = .returned (.int .i64 (chR F m).2) ∧ Below w.heap.size w w' := by
  have H := Lib.hid (roundR_any m w)
  have HP := Lib.hid (fun W (hW : Mdl W c k q n U X T) s => placeR_any c k q n s F A U W hW hv hp hU)
  have HM := Lib.hid h
  generalize hr : chR F m = r at *
  have HR := Lib.hid hr
  unfold chR at HR
  clear hr h hv hp
  generalize szR m = s at *
  generalize erR m = er at *
  go_enter Try.func29, Try.ntmps29
  go_wp2_with fail
  refine H.out.mono ?_
  rintro e w2 ⟨rfl, hb2⟩
  have HB2 := Lib.hid hb2
  clear hb2 H
  by_cases her : er = 0
  · subst her
    rw [if_pos rfl] at HR
    have HQ := Lib.hid (HP.out w2 (HM.out.go HB2.out) s)
    unfold plR at HQ
    clear HP
    cases hb : best s F with
    | none =>
      rw [hb] at HQ HR
      clear hb
      go_wp2_with fail
      refine HQ.out.mono ?_
      rintro e w3 ⟨rfl, hb3⟩
      have HB3 := Lib.hid (Below.then HB2.out hb3 (Nat.le_refl _))
      clear hb3 HQ
      go_wp2
      go_ret
      exact ⟨by rw [← HR.out]; rfl, HB3.out⟩
    | some x =>
      rw [hb] at HQ HR
      clear hb
      go_wp2_with fail
      refine HQ.out.mono ?_
      rintro e w3 ⟨rfl, hb3⟩
      have HB3 := Lib.hid (Below.then HB2.out hb3 (Nat.le_refl _))
      clear hb3 HQ
      go_wp2
      go_ret
      exact ⟨by rw [← HR.out]; rfl, HB3.out⟩
  · rw [if_neg her] at HR
    go_wp2
    go_ret
    exact ⟨by rw [← HR.out]; rfl, HB2.out⟩

theorem hasR_any {X : List Value} {T : TypeId} (c : Nat → Nat) (k q : Nat) (n x y : Int) (U : List (Int × Int)) (w : World) (h : Mdl w c k q n U X T) (hU : U.length ≤ 900) :
    Calls Try.prog 44 #[.pointer (some ⟨q, 0, none⟩), .agg #[.int .i64 x, .int .i64 y]] w (Tell w (decide ((x, y) ∈ U))) := by
  have hb0 : Below w.heap.size w (w.alloc (.cells #[.int .i64 x, .int .i64 y] 31)) := (Below.refl _ _).alloc (Nat.le_refl _) _
  have HBX := Lib.hid (Box.new (w := w) (x := x) (y := y))
  have HB0 := Lib.hid hb0
  obtain ⟨Au, nu, cu, hc0, hc1, hx⟩ := (h.go hb0).open_
  have HX := Lib.hid hx
  have HC1 := Lib.hid hc1
  have hcap := hx.cap
  have hsm := hx.small
  unfold maxLen at hsm
  have hnu : nu ≤ 900 := by have := hx.len; omega
  generalize hr : decide ((x, y) ∈ U) = r at *
  have HR := Lib.hid hr
  clear h hc0 hc1 hx hb0 hr
  go_enter Try.func44, Try.ntmps44
  go_wp2
  generalize w.alloc (.cells #[.int .i64 x, .int .i64 y] 31) = w1 at *
  go_loopw [5] (fun iv wr => ∃ (i : Nat), i ≤ nu ∧ iv = .int .i64 i ∧ Hid ((x, y) ∉ U.take i ∧ Below w1.heap.size w1 wr)) (fun iv _ => nu - (intOf iv).toNat)
  case atStart => exact ⟨0, by omega, rfl, Lib.hid ⟨by simp, Below.refl _ _⟩⟩
  case round =>
    obtain ⟨i, hi, rfl, hh⟩ := hrel
    have hcr : wr.cell? ⟨q, 1, none⟩ = some (.slice Au nu cu) := (hh.out.2.cell (p := ⟨q, 1, none⟩) (lt_of_some HC1.out)).trans HC1.out
    have e0 := (HBX.out.go hh.out.2).cell0
    have e1 := (HBX.out.go hh.out.2).cell1
    have HB3 := Lib.hid (Below.then HB0.out hh.out.2 (Nat.le_refl _))
    by_cases hlt : i < nu
    · obtain ⟨b, o, u, v, hu, rfl, hb, hc1, hc2, x0, x1, y0, y1⟩ := (HX.out.below hh.out.2).at_ hlt
      have hlt' : (i : Int) < (nu : Int) := by omega
      by_cases heq : u = x ∧ v = y
      · obtain ⟨rfl, rfl⟩ := heq
        have HN : Hid (r = true) := Lib.hid (by rw [← HR.out]; exact decide_eq_true (List.mem_of_getElem? hu))
        clear hu hh
        go_wp2
        go_quiet (fail)
        go_wp2
        go_ret
        exact ⟨by rw [HN.out]; rfl, below_drewN HB3.out _⟩
      · have HN : Hid ((x, y) ∉ U.take (i + 1)) := Lib.hid (by
          rw [take_one hu]
          simp only [List.mem_append, List.mem_singleton, Prod.mk.injEq, not_or]
          exact ⟨hh.out.1, fun e => heq ⟨e.1.symm, e.2.symm⟩⟩)
        have HBW := Lib.hid hh.out.2
        clear hu hh
        by_cases h1 : u = x
        · have h2 : ¬ v = y := fun e => heq ⟨h1, e⟩
          subst h1
          have h3 : (v == y) = false := by simpa using h2
          clear heq
          go_wp2
          go_quiet (fail)
          go_wp2
          go_roundw
          case rel => exact ⟨i + 1, by omega, by go_num, Lib.hid ⟨HN.out, below_drewN HBW.out _⟩⟩
          case measure => simp [intOf]; omega
        · have h3 : (u == x) = false := by simpa using h1
          clear heq
          go_wp2
          go_quiet (fail)
          go_wp2
          go_roundw
          case rel => exact ⟨i + 1, by omega, by go_num, Lib.hid ⟨HN.out, below_drewN HBW.out _⟩⟩
          case measure => simp [intOf]; omega
    · obtain rfl : i = nu := by omega
      have hlt' : ¬ (i : Int) < (i : Int) := by omega
      have HN : Hid (r = false) := Lib.hid (by
        have h1 := hh.out.1
        rw [List.take_of_length_le (by have := HX.out.len; omega)] at h1
        rw [← HR.out]
        exact decide_eq_false h1)
      go_wp2
      go_ret
      exact ⟨by rw [HN.out]; rfl, HB3.out⟩
end Go.Proofs.Ytfchccgajcjbbaa
