/-
  Package allocator in memory: what it means that a block is an allocator with a free set and a list of allocated extents, what stays as it was beside it, and contracts of the choice of an extent. Conditions: the lists have at most a million extents.
-/
import Derived.Test.YtfchccgajcjbbaaBin
import Derived.Test.YtfchccgajcjbbaaSize
import Derived.Test.YtfchccgajcjbbaaInsOk
import Derived.Test.YtfchccgajcjbbaaRem
import Derived.Test.YtfchccgajcjbbaaCmp
namespace Go.Proofs.Ytfchccgajcjbbaa
open Go.ChangeShapes Go.WideShapes Go.ChangeAt Go.RowKit
set_option maxHeartbeats 4000000
set_option maxRecDepth 100000

/-- What has a colour other than k has not changed; nothing has gone. -/
structure Kept (c : Nat → Nat) (k : Nat) (w w' : World) : Prop where
  os : w'.os = w.os
  tape : w'.tape = w.tape
  output : w'.output = w.output
  size : w.heap.size ≤ w'.heap.size
  block : ∀ g, g < w.heap.size → c g ≠ k → w'.heap[g]? = w.heap[g]?
/-- Blocks from n on get the colour k. -/
def rc (c : Nat → Nat) (n k : Nat) : Nat → Nat := fun g => if g < n then c g else k
theorem rc_old {c : Nat → Nat} {n k g : Nat} (h : g < n) : rc c n k g = c g := if_pos h
theorem rc_new {c : Nat → Nat} {n k g : Nat} (h : n ≤ g) : rc c n k g = k := if_neg (by omega)
section
variable {c : Nat → Nat} {k : Nat} {w w' w'' : World}
theorem Kept.refl : Kept c k w w := ⟨rfl, rfl, rfl, Nat.le_refl _, fun _ _ _ => rfl⟩
theorem Kept.ofBelow (h : Below w.heap.size w w') : Kept c k w w' := ⟨h.os, h.tape, h.output, h.size, fun g hg _ => h.block g hg⟩
theorem Kept.ofGrown {r : Option Nat} (h : w.grownBy w' r) (hr : ∀ g, r = some g → c g = k) : Kept c k w w' := ⟨h.os, h.tape, h.output, h.size, fun g hg hc => h.block g hg (fun e => hc (hr g e.symm))⟩
theorem Kept.trans (h : Kept c k w w') (h' : Kept c k w' w'') : Kept c k w w'' :=
  ⟨h'.os.trans h.os, h'.tape.trans h.tape, h'.output.trans h.output, Nat.le_trans h.size h'.size, fun g hg hc => (h'.block g (Nat.lt_of_lt_of_le hg h.size) hc).trans (h.block g hg hc)⟩
theorem Kept.below {B : Nat} (h : Kept c k w w') (hB : ∀ g, g < B → c g ≠ k) (hw : B ≤ w.heap.size) : Below B w w' := ⟨h.os, h.tape, h.output, h.size, fun g hg => h.block g (by omega) (hB g hg)⟩
theorem OwnE.keptC {t : TypeId} {base : Nat} {v : Value} {l : List (Int × Int)} (h : OwnE t w base v l) (hk : Kept c k w w') (hne : ∀ g, v.ownBlock = some g → c g ≠ k) : OwnE t w' base v l := by
  refine ⟨⟨h.1.1, ?_⟩, h.2⟩
  rcases h.1.2 with h0 | ⟨g, cap, cur, rfl, hbg, hg, hnc, hm, hs, ht⟩
  · exact .inl h0
  · exact .inr ⟨g, cap, cur, rfl, hbg, (hk.block g (Array.getElem?_eq_some_iff.1 hg).1 (hne g rfl)).trans hg, hnc, hm, hs, ht⟩
end
theorem OwnE.blk_lt {t : TypeId} {w : World} {base : Nat} {v : Value} {l : List (Int × Int)} (h : OwnE t w base v l) {g : Nat} (hg : v.ownBlock = some g) : g < w.heap.size := by
  rcases h.1.2 with ⟨rfl, _⟩ | ⟨g', cap, cur, rfl, hbg, hg', hnc, hm, hs, ht⟩
  · cases hg
  · cases hg
    exact (Array.getElem?_eq_some_iff.1 hg').1
theorem OwnE.blk_ge {t : TypeId} {w : World} {base : Nat} {v : Value} {l : List (Int × Int)} (h : OwnE t w base v l) {g : Nat} (hg : v.ownBlock = some g) : base ≤ g := by
  rcases h.1.2 with ⟨rfl, _⟩ | ⟨g', cap, cur, rfl, hbg, hg', hnc, hm, hs, ht⟩
  · cases hg
  · cases hg
    exact hbg
theorem OwnE.exs {t : TypeId} {w : World} {base n c : Nat} {A : Option Addr} {l : List (Int × Int)} (h : OwnE t w base (.slice A n c) l) : Exs w w.heap.size A n c l := by
  obtain ⟨A', n', c', e, hx⟩ := h.shape
  cases e
  exact hx

/-- The block p is an allocator with the free set F and the allocated extents A; what it writes has the colour k. -/
structure Alc (w : World) (c : Nat → Nat) (k p : Nat) (F A : List (Int × Int)) : Prop where
  ex : ∃ vf va, w.heap[p]? = some (.cells #[vf, va] 108 (0, 0)) ∧ OwnE 31 w 0 vf F ∧ OwnE 31 w 0 va A ∧ c p = k ∧ (∀ g, vf.ownBlock = some g → c g = k ∧ g ≠ p) ∧ ∀ g, va.ownBlock = some g → c g = k ∧ g ≠ p ∧ vf.ownBlock ≠ some g
section
variable {c c' : Nat → Nat} {k j p : Nat} {w w' : World} {F A : List (Int × Int)}
theorem Alc.lt (h : Alc w c k p F A) : p < w.heap.size := by
  obtain ⟨vf, va, h1, _⟩ := h.ex
  exact (Array.getElem?_eq_some_iff.1 h1).1
theorem Alc.col (h : Alc w c k p F A) : c p = k := by
  obtain ⟨vf, va, h1, h2, h3, h4, _⟩ := h.ex
  exact h4
/-- What other colours write leaves it as it is. -/
theorem Alc.kept (h : Alc w c k p F A) (hk : Kept c j w w') (hjk : j ≠ k) (hc : ∀ g, g < w.heap.size → c' g = c g) : Alc w' c' k p F A := by
  have hlt := h.lt
  obtain ⟨vf, va, h1, h2, h3, h4, h5, h6⟩ := h.ex
  refine ⟨vf, va, (hk.block p hlt (by omega)).trans h1, h2.keptC hk (fun g hg => ?_), h3.keptC hk (fun g hg => ?_), (hc p hlt).trans h4, fun g hg => ⟨(hc g (h2.blk_lt hg)).trans (h5 g hg).1, (h5 g hg).2⟩, fun g hg => ⟨(hc g (h3.blk_lt hg)).trans (h6 g hg).1, (h6 g hg).2⟩⟩
  · have := (h5 g hg).1; omega
  · have := (h6 g hg).1; omega
theorem Alc.go (h : Alc w c k p F A) (hb : Below w.heap.size w w') : Alc w' c k p F A := h.kept (j := k + 1) (Kept.ofBelow hb) (by omega) (fun _ _ => rfl)
/-- The two slices, and where they lie. -/
theorem Alc.open_ (h : Alc w c k p F A) : ∃ Af nf cf Aa na ca, w.cell? ⟨p, 0, none⟩ = some (.slice Af nf cf) ∧ w.cell? ⟨p, 1, none⟩ = some (.slice Aa na ca) ∧ Exs w w.heap.size Af nf cf F ∧ Exs w w.heap.size Aa na ca A := by
  obtain ⟨vf, va, h1, h2, h3, _⟩ := h.ex
  obtain ⟨Af, nf, cf, rfl, hx⟩ := h2.shape
  obtain ⟨Aa, na, ca, rfl, hy⟩ := h3.shape
  exact ⟨Af, nf, cf, Aa, na, ca, cell_of_row w p 0 _ _ _ h1, cell_of_row w p 1 _ _ _ h1, hx, hy⟩
end

/-- What the choice of an extent for n bytes says. -/
noncomputable def chR (F : List (Int × Int)) (n : Int) : (Int × Int) × Int := if erR n = 0 then match best (szR n) F with
    | none => ((0, 0), 18)
    | some x => ((x.1, szR n), 0)
  else ((0, 0), erR n)
def ChE (w : World) (r : (Int × Int) × Int) (e : Ending) (w' : World) : Prop := e = .returned (.tuple #[.agg #[.int .i64 r.1.1, .int .i64 r.1.2], .int .i64 r.2]) ∧ Below w.heap.size w w'

theorem choose_any (c : Nat → Nat) (k p : Nat) (F A : List (Int × Int)) (n : Int) (w : World) (h : Alc w c k p F A) (hF : F.length ≤ 1000000) :
    Calls Try.prog 63 #[.pointer (some ⟨p, 0, none⟩), .int .i64 n] w (ChE w (chR F n)) := by
  have hb0 : Below w.heap.size w (w.alloc (.cells #[.int .i64 0, .int .i64 0] 31)) := (Below.refl _ _).alloc (Nat.le_refl _) _
  have HBX := Lib.hid (Box.new (w := w) (x := 0) (y := 0))
  have HB0 := Lib.hid hb0
  have H := Lib.hid (round_any n (w.alloc (.cells #[.int .i64 0, .int .i64 0] 31)))
  obtain ⟨Af, nf, cf, Aa, na, ca, hcf, hca, hxf, hxa⟩ := (h.go hb0).open_
  have HC := Lib.hid hcf
  have HX := Lib.hid hxf
  have hnf : nf ≤ 1000000 := by have := hxf.len; omega
  have hcap := hxf.cap
  have hsm := hxf.small
  unfold maxLen at hsm
  have s0 := (szR_bd n).1
  have s1 := (szR_bd n).2
  generalize hr : chR F n = r at *
  have HR := Lib.hid hr
  clear hr hcf hca hxf hxa h hb0
  unfold chR at HR
  generalize szR n = s at *
  generalize erR n = er at *
  go_enter Try.func63, Try.ntmps63
  go_wp2_with fail
  refine H.out.mono ?_
  rintro e w2 ⟨rfl, hb2⟩
  clear H
  generalize w.alloc (.cells #[.int .i64 0, .int .i64 0] 31) = w1 at *
  have HBX2 := Lib.hid (HBX.out.go hb2)
  have HB2 := Lib.hid (Below.then HB0.out hb2 (Nat.le_refl _))
  have HC2 : Hid (w2.cell? ⟨p, 0, none⟩ = some (.slice Af nf cf)) := Lib.hid ((hb2.cell (p := ⟨p, 0, none⟩) (lt_of_some HC.out)).trans HC.out)
  have HX2 := Lib.hid (HX.out.go hb2)
  have g0 := HBX2.out.cell0
  have g1 := HBX2.out.cell1
  have g2 := HBX2.out.fr0
  have g3 := HBX2.out.fr1
  clear hb2 HBX HB0 HC HX
  by_cases her : er = 0
  · subst her
    have HR' : Hid ((match best s F with
        | none => ((0, 0), 18)
        | some x => ((x.1, s), 0)) = r) := by simpa using HR
    clear HR
    have hc := HC2.out
    go_wp2
    clear hc
    go_loopw [8, 28] (fun sv iv wr => ∃ (i : Nat) (z : Int), i ≤ nf ∧ iv = .int .i64 i ∧ sv = .int .i64 z ∧ Hid (((z = -1 ∧ best s (F.take i) = none) ∨ ∃ (j : Nat) (x : Int × Int), j < i ∧ z = j ∧ F[j]? = some x ∧ best s (F.take i) = some x) ∧ Below w2.heap.size w2 wr)) (fun _ iv _ => nf - (intOf iv).toNat)
    case atStart => exact ⟨0, -1, by omega, rfl, rfl, Lib.hid ⟨.inl ⟨rfl, by simp [best]⟩, Below.refl _ _⟩⟩
    case round =>
      obtain ⟨i, z, hi, rfl, rfl, hh⟩ := hrel
      have hcr : wr.cell? ⟨p, 0, none⟩ = some (.slice Af nf cf) := (hh.out.2.cell (p := ⟨p, 0, none⟩) (lt_of_some HC2.out)).trans HC2.out
      by_cases hlt : i < nf
      · obtain ⟨b, o, u, v, hx, rfl, hb, hc1, hc2, x0, x1, y0, y1⟩ := (HX2.out.below hh.out.2).at_ hlt
        have HXi := Lib.hid hx
        have hst := best_step (s := s) hx
        have hlt' : (i : Int) < (nf : Int) := by omega
        have hib : ¬ (i : Int) < 0 := by omega
        clear hx
        by_cases hs : s ≤ v
        · have ds : decide (s ≤ v) = true := decide_eq_true hs
          rcases hh.out.1 with ⟨hz, hbn⟩ | ⟨j, xj, hji, hz, hxj, hbs⟩
          · subst hz
            have HNB : Hid (best s (F.take (i + 1)) = some (u, v)) := Lib.hid (by rw [hst, hbn]; simp [bstep, hs])
            have HB3 := Lib.hid (hh.out.2.alloc hh.out.2.size (.cells #[.int .i64 u, .int .i64 v] 31))
            clear hst hbn hh
            go_wp2
            go_quiet (fail)
            go_wp2
            go_roundw
            case rel => exact ⟨i + 1, i, by omega, by go_num, rfl, Lib.hid ⟨.inr ⟨i, _, by omega, rfl, HXi.out, HNB.out⟩, below_drewN HB3.out _⟩⟩
            case measure => simp [intOf]; omega
          · obtain ⟨xa, xb⟩ := xj
            obtain ⟨b', o', u', v', hx', hA, hb', hc1', hc2', x0', x1', y0', y1'⟩ := (HX2.out.below hh.out.2).at_ (k := j) (by omega)
            cases hA
            rw [hxj] at hx'
            cases hx'
            have hz0 : ¬ (j : Int) < 0 := by omega
            have dz : decide ((j : Int) < 0) = false := decide_eq_false hz0
            have hz1 : (j : Int) < (nf : Int) := by omega
            subst hz
            have f1 := cell_under hcr (.cells #[.int .i64 u, .int .i64 v] 31)
            have f2 := cell_under hc2' (.cells #[.int .i64 u, .int .i64 v] 31)
            by_cases hvx : v < xb
            · have dv : decide (v < xb) = true := decide_eq_true hvx
              have HNB : Hid (best s (F.take (i + 1)) = some (u, v)) := Lib.hid (by rw [hst, hbs]; simp [bstep, hs, hvx])
              have HB3 := Lib.hid (hh.out.2.alloc hh.out.2.size (.cells #[.int .i64 u, .int .i64 v] 31))
              clear hst hbs hh hxj
              go_wp2
              go_quiet (fail)
              go_wp2
              go_roundw
              case rel => exact ⟨i + 1, i, by omega, by go_num, rfl, Lib.hid ⟨.inr ⟨i, _, by omega, rfl, HXi.out, HNB.out⟩, below_drewN HB3.out _⟩⟩
              case measure => simp [intOf]; omega
            · have dv : decide (v < xb) = false := decide_eq_false hvx
              have HNB : Hid (best s (F.take (i + 1)) = some (xa, xb)) := Lib.hid (by rw [hst, hbs]; simp [bstep, hvx])
              have HXJ := Lib.hid hxj
              have HB3 := Lib.hid (hh.out.2.alloc hh.out.2.size (.cells #[.int .i64 u, .int .i64 v] 31))
              clear hst hbs hh hxj
              go_wp2
              go_quiet (fail)
              go_wp2
              go_roundw
              case rel => exact ⟨i + 1, j, by omega, by go_num, rfl, Lib.hid ⟨.inr ⟨j, _, by omega, rfl, HXJ.out, HNB.out⟩, below_drewN HB3.out _⟩⟩
              case measure => simp [intOf]; omega
        · have ds : decide (s ≤ v) = false := decide_eq_false hs
          have HNB : Hid (((z = -1 ∧ best s (F.take (i + 1)) = none) ∨ ∃ (j : Nat) (x : Int × Int), j < i + 1 ∧ z = j ∧ F[j]? = some x ∧ best s (F.take (i + 1)) = some x)) := Lib.hid (by
            rcases hh.out.1 with ⟨hz, hbn⟩ | ⟨j, xj, hji, hz, hxj, hbs⟩
            · exact .inl ⟨hz, by rw [hst, hbn]; simp [bstep, hs]⟩
            · exact .inr ⟨j, xj, by omega, hz, hxj, by rw [hst, hbs]; simp [bstep, hs]⟩)
          have HB3 := Lib.hid (hh.out.2.alloc hh.out.2.size (.cells #[.int .i64 u, .int .i64 v] 31))
          clear hst hh
          go_wp2
          go_quiet (fail)
          go_wp2
          go_roundw
          case rel => exact ⟨i + 1, z, by omega, by go_num, rfl, Lib.hid ⟨HNB.out, below_drewN HB3.out _⟩⟩
          case measure => simp [intOf]; omega
      · obtain rfl : i = nf := by omega
        have HBX4 := Lib.hid (HBX2.out.go hh.out.2)
        have HB4 := Lib.hid (Below.then HB2.out hh.out.2 (Nat.le_refl _))
        have HT : Hid (F.take i = F) := Lib.hid (List.take_of_length_le (by have := HX2.out.len; omega))
        have q0 := HBX4.out.cell0
        have q1 := HBX4.out.cell1
        have q2 := HBX4.out.fr0
        have q3 := HBX4.out.fr1
        clear g0 g1 g2 g3
        rcases hh.out.1 with ⟨hz, hbn⟩ | ⟨j, xj, hji, hz, hxj, hbs⟩
        · rw [HT.out] at hbn
          rw [hbn] at HR'
          subst hz
          clear hbn hh HT
          go_wp2
          have HBX3 := Lib.hid (HBX4.out.set 0 0)
          have HB3 := Lib.hid ((HB4.out.setCell (p := ⟨w.heap.size, 0, none⟩) (Nat.le_refl _) (.int .i64 0)).setCell (p := ⟨w.heap.size, 1, none⟩) (Nat.le_refl _) (.int .i64 0))
          generalize (wr.setCell ⟨w.heap.size, 0, none⟩ (.int .i64 0)).setCell ⟨w.heap.size, 1, none⟩ (.int .i64 0) = w3 at *
          have k0 := HBX3.out.cell0
          have k1 := HBX3.out.cell1
          exact bodyPost_ret (v := .tuple #[.agg #[.int .i64 0, .int .i64 0], .int .i64 18]) (by simp [results, Try.results63, go_sem, k0, k1]) rfl ⟨by rw [← HR'.out], HB3.out⟩
        · obtain ⟨xa, xb⟩ := xj
          obtain ⟨b', o', u', v', hx', rfl, hb', hc1', hc2', x0', x1', y0', y1'⟩ := (HX2.out.below hh.out.2).at_ (k := j) (by omega)
          rw [hxj] at hx'
          cases hx'
          rw [HT.out] at hbs
          rw [hbs] at HR'
          have hz0 : ¬ (j : Int) < 0 := by omega
          have hz1 : (j : Int) < (i : Int) := by omega
          subst hz
          clear hbs hh HT hxj
          go_wp2
          have HBX3 := Lib.hid (HBX4.out.set xa s)
          have HB3 := Lib.hid ((HB4.out.setCell (p := ⟨w.heap.size, 0, none⟩) (Nat.le_refl _) (.int .i64 xa)).setCell (p := ⟨w.heap.size, 1, none⟩) (Nat.le_refl _) (.int .i64 s))
          generalize (wr.setCell ⟨w.heap.size, 0, none⟩ (.int .i64 xa)).setCell ⟨w.heap.size, 1, none⟩ (.int .i64 s) = w3 at *
          have k0 := HBX3.out.cell0
          have k1 := HBX3.out.cell1
          exact bodyPost_ret (v := .tuple #[.agg #[.int .i64 xa, .int .i64 s], .int .i64 0]) (by simp [results, Try.results63, go_sem, k0, k1]) rfl ⟨by rw [← HR'.out], HB3.out⟩
  · rw [if_neg her] at HR
    go_wp2
    have HBX3 := Lib.hid (HBX2.out.set 0 0)
    have HB3 := Lib.hid ((HB2.out.setCell (p := ⟨w.heap.size, 0, none⟩) (Nat.le_refl _) (.int .i64 0)).setCell (p := ⟨w.heap.size, 1, none⟩) (Nat.le_refl _) (.int .i64 0))
    generalize (w2.setCell ⟨w.heap.size, 0, none⟩ (.int .i64 0)).setCell ⟨w.heap.size, 1, none⟩ (.int .i64 0) = w3 at *
    have k0 := HBX3.out.cell0
    have k1 := HBX3.out.cell1
    exact bodyPost_ret (v := .tuple #[.agg #[.int .i64 0, .int .i64 0], .int .i64 er]) (by simp [results, Try.results63, go_sem, k0, k1]) rfl ⟨by rw [← HR.out], HB3.out⟩
end Go.Proofs.Ytfchccgajcjbbaa
