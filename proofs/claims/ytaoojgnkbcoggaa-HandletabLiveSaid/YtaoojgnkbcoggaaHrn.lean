/-
  Contracts of Resolve and New of the landed table and of the model. Conditions: at most 4096 slots; words are numbers of 64 bits.
-/
import Derived.Test.YtaoojgnkbcoggaaHtm
import Derived.Laws.OwnMore
namespace Go.Proofs.Ytaoojgnkbcoggaa
section
open Go.ChangeShapes Go.WideShapes Go.RowKit
set_option linter.unusedVariables false
set_option linter.unusedSimpArgs false
set_option maxHeartbeats 4000000
set_option maxRecDepth 100000

/-- A box that holds an entry. -/
def EnB (w : World) (b : Nat) (h o t f l : Int) : Prop := w.heap[b]? = some (.cells #[.int .u64 h, .int .i64 o, .int .i64 t, .int .i64 f, .int .i64 l] 44 (0, 0))
section
variable {w w' : World} {b : Nat} {h o t f l : Int}
theorem EnB.new : EnB (w.alloc (.cells #[.int .u64 h, .int .i64 o, .int .i64 t, .int .i64 f, .int .i64 l] 44)) w.heap.size h o t f l := heap_alloc_new w _
theorem EnB.lt (H : EnB w b h o t f l) : b < w.heap.size := (Array.getElem?_eq_some_iff.1 H).1
theorem EnB.go (H : EnB w b h o t f l) (hb : Below w.heap.size w w') : EnB w' b h o t f l := (hb.block b H.lt).trans H
theorem EnB.cells (H : EnB w b h o t f l) : w.cell? ⟨b, 0, none⟩ = some (.int .u64 h) ∧ w.cell? ⟨b, 1, none⟩ = some (.int .i64 o) ∧ w.cell? ⟨b, 2, none⟩ = some (.int .i64 t) ∧ w.cell? ⟨b, 3, none⟩ = some (.int .i64 f) ∧ w.cell? ⟨b, 4, none⟩ = some (.int .i64 l) :=
  ⟨cell_of_row w b 0 _ _ _ H, cell_of_row w b 1 _ _ _ H, cell_of_row w b 2 _ _ _ H, cell_of_row w b 3 _ _ _ H, cell_of_row w b 4 _ _ _ H⟩
theorem EnB.fr (H : EnB w b h o t f l) (i : Nat) : w.frozen? ⟨b, i, none⟩ = false := frozen_of_row w b i _ _ H
/-- A whole entry is stored into it. -/
theorem EnB.set (H : EnB w b h o t f l) (h' o' t' f' l' : Int) : EnB (((((w.setCell ⟨b, 0, none⟩ (.int .u64 h')).setCell ⟨b, 1, none⟩ (.int .i64 o')).setCell ⟨b, 2, none⟩ (.int .i64 t')).setCell ⟨b, 3, none⟩ (.int .i64 f')).setCell ⟨b, 4, none⟩ (.int .i64 l')) b h' o' t' f' l' ∧
    Below b w (((((w.setCell ⟨b, 0, none⟩ (.int .u64 h')).setCell ⟨b, 1, none⟩ (.int .i64 o')).setCell ⟨b, 2, none⟩ (.int .i64 t')).setCell ⟨b, 3, none⟩ (.int .i64 f')).setCell ⟨b, 4, none⟩ (.int .i64 l')) := by
  have h0 := heap_setCell_same w b 0 _ _ (.int .u64 h') H
  have h1 := heap_setCell_same _ b 1 _ _ (.int .i64 o') h0
  have h2 := heap_setCell_same _ b 2 _ _ (.int .i64 t') h1
  have h3 := heap_setCell_same _ b 3 _ _ (.int .i64 f') h2
  have h4 := heap_setCell_same _ b 4 _ _ (.int .i64 l') h3
  exact ⟨h4, ((((((Below.refl b w).setCell (p := ⟨b, 0, none⟩) (Nat.le_refl _) _).setCell (p := ⟨b, 1, none⟩) (Nat.le_refl _) _).setCell (p := ⟨b, 2, none⟩) (Nat.le_refl _) _).setCell (p := ⟨b, 3, none⟩) (Nat.le_refl _) _).setCell (p := ⟨b, 4, none⟩) (Nat.le_refl _) _)⟩
end
theorem Ht.of_dead {t : Ht} {j : Nat} (h : t.lv j = false) : t.s.of (j : Int) = (0, false) := by
  unfold Gs.of
  rw [Int.toNat_natCast, if_neg]
  rintro ⟨_, h1⟩
  rw [← Ht.lv_iff, h] at h1
  cases h1
theorem Ht.of_live {t : Ht} {j : Nat} (h : t.lv j = true) : t.s.of (j : Int) = (t.s.gen.getD j 0, true) := by
  unfold Gs.of
  rw [Int.toNat_natCast, if_pos ⟨by omega, Ht.lv_iff.1 h⟩]
theorem Ht.resE_dead {t : Ht} {h : Int} {j : Nat} (hs : wSl h = (j : Int)) (hj : j < t.e.length) (hd : t.lv j = false) : t.resE h = 11 := by
  unfold Ht.resE
  rw [hs, Int.toNat_natCast, if_neg (by omega), if_neg (by rw [hd]; simp)]
theorem Ht.resE_old {t : Ht} {h : Int} {j : Nat} (hs : wSl h = (j : Int)) (hj : j < t.e.length) (hg : ¬ t.s.gen.getD j 0 = wGn h) : t.resE h = 11 := by
  unfold Ht.resE
  rw [hs, Int.toNat_natCast, if_neg (by omega), if_neg (fun e => hg e.2)]
theorem Ht.resE_tag {t : Ht} {h : Int} {j : Nat} (hs : wSl h = (j : Int)) (hj : j < t.e.length) (hd : t.lv j = true) (hg : t.s.gen.getD j 0 = wGn h) (ht : ¬ (t.en j).t = wTg h) : t.resE h = 12 := by
  unfold Ht.resE
  rw [hs, Int.toNat_natCast, if_neg (by omega), if_pos ⟨hd, hg⟩, if_neg ht]
theorem Ht.resE_is {t : Ht} {h : Int} {j : Nat} (hs : wSl h = (j : Int)) (hj : j < t.e.length) (hd : t.lv j = true) (hg : t.s.gen.getD j 0 = wGn h) (ht : (t.en j).t = wTg h) : t.resE h = 0 ∧ t.resV h = t.en j := by
  have h0 : t.resE h = 0 := by
    unfold Ht.resE
    rw [hs, Int.toNat_natCast, if_neg (by omega), if_pos ⟨hd, hg⟩, if_pos ht]
  refine ⟨h0, ?_⟩
  unfold Ht.resV
  rw [if_pos h0, hs, Int.toNat_natCast]
theorem Ht.resE_slot {t : Ht} {h : Int} (hs : (t.e.length : Int) ≤ wSl h) : t.resE h = 10 := if_pos hs
def RsE (w : World) (t : Ht) (h : Int) (e : Ending) (w' : World) : Prop := e = .returned (.tuple #[enV (t.resV h), .int .i64 (t.resE h)]) ∧ Below w.heap.size w w'
theorem resS_any (w : World) (c : Nat → Nat) (k p N : Nat) (t : Ht) (h : Int) (H : Htb w c k p t) (hW : t.Wf N) (hN : N ≤ 4096) (hu : U64 h) :
    Calls Try.prog 15 #[.pointer (some ⟨p, 0, none⟩), .int .u64 h] w (RsE w t h) := by
  obtain ⟨A, n, cap, d, q, q0, q1, hk, hS⟩ := Inn.cells H
  have hba : Below w.heap.size w (w.alloc (.cells #[.int .u64 0, .int .i64 0, .int .i64 0, .int .i64 0, .int .i64 0] 44)) := (Below.refl _ _).alloc (Nat.le_refl _) _
  have HB0 := Lib.hid hba
  have HS0 := pc_landed.go hS hba
  have HZ := Lib.hid (sizeS_any _ d 1 q _ _ HS0.1)
  rw [Gs.sts_len, hW.gs.gl] at HZ
  have hn : n = N := by have := hk.len; rw [Ht.pe_len, hW.el] at this; omega
  subst hn
  have hcap := hk.cap
  have hsm := hk.small
  unfold maxLen at hsm
  obtain ⟨j, hj⟩ : ∃ j : Nat, wSl h = (j : Int) := ⟨(wSl h).toNat, by have := wSl_bd (x := h); omega⟩
  have HSL := Lib.hid (fun W => slot_any h hu W)
  have HG := Lib.hid (fun W => gen_any h hu W)
  have HT := Lib.hid (fun W => tag_any h hu W)
  have HGN := Lib.hid (fun W (hW : W.cell? ⟨p, 0, none⟩ = some (.pointer (some ⟨q, 0, none⟩))) => gens_any W c k p t.s t.pe q hW)
  have HL := Lib.hid (liveS_any _ d 1 q n t.s (j : Int) HS0 hW.gs)
  rw [hj] at HSL
  have q0' : (w.alloc (.cells #[.int .u64 0, .int .i64 0, .int .i64 0, .int .i64 0, .int .i64 0] 44)).cell? ⟨p, 0, none⟩ = some (.pointer (some ⟨q, 0, none⟩)) := cell_under q0 _
  have q1' : (w.alloc (.cells #[.int .u64 0, .int .i64 0, .int .i64 0, .int .i64 0, .int .i64 0] 44)).cell? ⟨p, 1, none⟩ = some (.slice A n cap) := cell_under q1 _
  have HE0 := Lib.hid (EnB.new (w := w) (h := 0) (o := 0) (t := 0) (f := 0) (l := 0))
  unfold RsE
  by_cases hjn : j < n
  · have hjn' : ¬ (j : Int) ≥ (n : Int) := by omega
    have hj1 : (j : Int) < (n : Int) := by omega
    cases hlv : t.lv j
    · have hE : t.resE h = 11 := Ht.resE_dead hj (by rw [hW.el]; exact hjn) hlv
      have hV : t.resV h = En.z := if_neg (by rw [hE]; omega)
      rw [Ht.of_dead hlv] at HL
      rw [hE, hV]
      clear H hS HS0 hk hba hE hV hW hj hu q0 q1 HT HG hlv
      go_enter Try.func15, Try.ntmps15
      go_wp2_with fail
      generalize w.alloc (.cells #[.int .u64 0, .int .i64 0, .int .i64 0, .int .i64 0, .int .i64 0] 44) = w0 at *
      generalize hbz : w.heap.size = b0 at *
      have HBZ := Lib.hid hbz
      clear hbz
      refine (HSL.out _).mono ?_
      rintro e w2 ⟨rfl, rfl⟩
      go_wp2_with fail
      refine (HGN.out _ q0').mono ?_
      rintro e w2 ⟨rfl, rfl⟩
      go_wp2_with fail
      refine HZ.out.mono ?_
      rintro e w2 ⟨rfl, rfl⟩
      go_wp2_with fail
      refine HL.out.mono ?_
      rintro e w2 ⟨rfl, rfl⟩
      have f0 := HE0.out.fr
      obtain ⟨c0, c1, c2, c3, c4⟩ := HE0.out.cells
      go_wp2
      obtain ⟨h5, hb5⟩ := HE0.out.set 0 0 0 0 0
      obtain ⟨k0, k1, k2, k3, k4⟩ := h5.cells
      exact bodyPost_ret (v := .tuple #[.agg #[.int .u64 0, .int .i64 0, .int .i64 0, .int .i64 0, .int .i64 0], .int .i64 11]) (by simp [results, Try.results15, go_sem, k0, k1, k2, k3, k4]) rfl ⟨rfl, by rw [HBZ.out]; exact HB0.out.trans hb5⟩
    · have hof := Ht.of_live hlv
      rw [hof] at HL
      by_cases hg : t.s.gen.getD j 0 = wGn h
      · rw [hg] at HL
        by_cases ht : (t.en j).t = wTg h
        · obtain ⟨hE, hV⟩ := Ht.resE_is hj (by rw [hW.el]; exact hjn) hlv hg ht
          rw [hE, hV]
          obtain ⟨b, o, x, hx, rfl, hbb, g0, g1, g2, g3, g4⟩ := (hk.alloc (.cells #[.int .u64 0, .int .i64 0, .int .i64 0, .int .i64 0, .int .i64 0] 44)).en_at hjn
          obtain rfl : x = t.en j := by
            rw [Ht.pe_at (by rw [hW.el]; exact hjn), if_pos hlv] at hx
            exact (Option.some.inj hx).symm
          have hbw : w.heap.size ≠ b := by omega
          rw [ht] at g2
          rw [show enV (t.en j) = .agg #[.int .u64 (t.en j).h, .int .i64 (t.en j).o, .int .i64 (wTg h), .int .i64 (t.en j).f, .int .i64 (t.en j).l] from by rw [← ht]; rfl]
          generalize (t.en j).h = vh at *
          generalize (t.en j).o = vo at *
          generalize (t.en j).f = vf at *
          generalize (t.en j).l = vl at *
          generalize wTg h = vt at *
          clear H hS HS0 hk hba hE hV hW hj hu q0 q1 hlv hof hg ht hx
          go_enter Try.func15, Try.ntmps15
          go_wp2_with fail
          generalize w.alloc (.cells #[.int .u64 0, .int .i64 0, .int .i64 0, .int .i64 0, .int .i64 0] 44) = w0 at *
          generalize hbz : w.heap.size = b0 at *
          have HBZ := Lib.hid hbz
          clear hbz
          refine (HSL.out _).mono ?_
          rintro e w2 ⟨rfl, rfl⟩
          go_wp2_with fail
          refine (HGN.out _ q0').mono ?_
          rintro e w2 ⟨rfl, rfl⟩
          go_wp2_with fail
          refine HZ.out.mono ?_
          rintro e w2 ⟨rfl, rfl⟩
          go_wp2_with fail
          refine HL.out.mono ?_
          rintro e w2 ⟨rfl, rfl⟩
          go_wp2_with fail
          refine (HG.out _).mono ?_
          rintro e w2 ⟨rfl, rfl⟩
          go_wp2_with fail
          have HTL : Hid (∀ z : Later w0, Calls Try.prog 40 #[.int .u64 h] z.val fun e w' => e = .returned (.int .i64 vt) ∧ Below z.val.heap.size z.val w') := Lib.hid (fun z => (HT.out z.val).mono fun e w' h => ⟨h.1, h.2 ▸ Below.refl _ _⟩)
          have a1 : ∀ z : Later w0, z.val.cell? ⟨p, 1, none⟩ = some (.slice (some ⟨b, o, none⟩) n cap) := fun z => later_old z q1'
          have a2 : ∀ z : Later w0, z.val.cell? ⟨b, o + j * 5 + 2, none⟩ = some (.int .i64 vt) := fun z => later_old z g2
          refine wp_region_later (by kernel_rfl) (by kernel_rfl) ?_
          repeat (go_big_quiet_step (first | (go_at_call 40; exact Calls.later (HTL.out _))))
          refine wpQuiet_nil ?_
          rintro w6 ⟨⟨_, hq⟩, rfl⟩
          have p1 := (hq.cell (p := ⟨p, 1, none⟩) (lt_of_some q1')).trans q1'
          have i0 := (hq.cell (p := ⟨b, o + j * 5, none⟩) (lt_of_some g0)).trans g0
          have i1 := (hq.cell (p := ⟨b, o + j * 5 + 1, none⟩) (lt_of_some g1)).trans g1
          have i2 := (hq.cell (p := ⟨b, o + j * 5 + 2, none⟩) (lt_of_some g2)).trans g2
          have i3 := (hq.cell (p := ⟨b, o + j * 5 + 3, none⟩) (lt_of_some g3)).trans g3
          have i4 := (hq.cell (p := ⟨b, o + j * 5 + 4, none⟩) (lt_of_some g4)).trans g4
          have HE1 := Lib.hid (HE0.out.go hq)
          have HB1 := Lib.hid (Below.then HB0.out hq (by have := HBZ.out; omega))
          clear a1 a2 g0 g1 g2 g3 g4 q1' hq HTL
          have f0 := HE1.out.fr
          obtain ⟨c0, c1, c2, c3, c4⟩ := HE1.out.cells
          go_wp2
          obtain ⟨h5, hb5⟩ := HE1.out.set vh vo vt vf vl
          obtain ⟨k0, k1, k2, k3, k4⟩ := h5.cells
          exact bodyPost_ret (v := .tuple #[.agg #[.int .u64 vh, .int .i64 vo, .int .i64 vt, .int .i64 vf, .int .i64 vl], .int .i64 0]) (by simp [results, Try.results15, go_sem, k0, k1, k2, k3, k4]) rfl ⟨rfl, by rw [HBZ.out]; exact HB1.out.trans hb5⟩
        · have hE := Ht.resE_tag hj (by rw [hW.el]; exact hjn) hlv hg ht
          have hV : t.resV h = En.z := if_neg (by rw [hE]; omega)
          have htb : ((t.en j).t != wTg h) = true := by simpa using ht
          rw [hE, hV]
          obtain ⟨b, o, x, hx, rfl, hbb, g0, g1, g2, g3, g4⟩ := (hk.alloc (.cells #[.int .u64 0, .int .i64 0, .int .i64 0, .int .i64 0, .int .i64 0] 44)).en_at hjn
          obtain rfl : x = t.en j := by
            rw [Ht.pe_at (by rw [hW.el]; exact hjn), if_pos hlv] at hx
            exact (Option.some.inj hx).symm
          have hbw : w.heap.size ≠ b := by omega
          clear H hS HS0 hk hba hE hV hW hj hu q0 q1 hlv hof hg hx
          go_enter Try.func15, Try.ntmps15
          go_wp2_with fail
          generalize w.alloc (.cells #[.int .u64 0, .int .i64 0, .int .i64 0, .int .i64 0, .int .i64 0] 44) = w0 at *
          generalize hbz : w.heap.size = b0 at *
          have HBZ := Lib.hid hbz
          clear hbz
          refine (HSL.out _).mono ?_
          rintro e w2 ⟨rfl, rfl⟩
          go_wp2_with fail
          refine (HGN.out _ q0').mono ?_
          rintro e w2 ⟨rfl, rfl⟩
          go_wp2_with fail
          refine HZ.out.mono ?_
          rintro e w2 ⟨rfl, rfl⟩
          go_wp2_with fail
          refine HL.out.mono ?_
          rintro e w2 ⟨rfl, rfl⟩
          go_wp2_with fail
          refine (HG.out _).mono ?_
          rintro e w2 ⟨rfl, rfl⟩
          go_wp2_with fail
          have HTL : Hid (∀ z : Later w0, Calls Try.prog 40 #[.int .u64 h] z.val fun e w' => e = .returned (.int .i64 (wTg h)) ∧ Below z.val.heap.size z.val w') := Lib.hid (fun z => (HT.out z.val).mono fun e w' h => ⟨h.1, h.2 ▸ Below.refl _ _⟩)
          have a1 : ∀ z : Later w0, z.val.cell? ⟨p, 1, none⟩ = some (.slice (some ⟨b, o, none⟩) n cap) := fun z => later_old z q1'
          have a2 : ∀ z : Later w0, z.val.cell? ⟨b, o + j * 5 + 2, none⟩ = some (.int .i64 (t.en j).t) := fun z => later_old z g2
          refine wp_region_later (by kernel_rfl) (by kernel_rfl) ?_
          repeat (go_big_quiet_step (first | (go_at_call 40; exact Calls.later (HTL.out _))))
          refine wpQuiet_nil ?_
          rintro w6 ⟨⟨_, hq⟩, rfl⟩
          have p1 := (hq.cell (p := ⟨p, 1, none⟩) (lt_of_some q1')).trans q1'
          have i0 := (hq.cell (p := ⟨b, o + j * 5, none⟩) (lt_of_some g0)).trans g0
          have i1 := (hq.cell (p := ⟨b, o + j * 5 + 1, none⟩) (lt_of_some g1)).trans g1
          have i2 := (hq.cell (p := ⟨b, o + j * 5 + 2, none⟩) (lt_of_some g2)).trans g2
          have i3 := (hq.cell (p := ⟨b, o + j * 5 + 3, none⟩) (lt_of_some g3)).trans g3
          have i4 := (hq.cell (p := ⟨b, o + j * 5 + 4, none⟩) (lt_of_some g4)).trans g4
          have HE1 := Lib.hid (HE0.out.go hq)
          have HB1 := Lib.hid (Below.then HB0.out hq (by have := HBZ.out; omega))
          clear a1 a2 g0 g1 g2 g3 g4 q1' hq HTL
          have f0 := HE1.out.fr
          obtain ⟨c0, c1, c2, c3, c4⟩ := HE1.out.cells
          go_wp2
          obtain ⟨h5, hb5⟩ := HE1.out.set 0 0 0 0 0
          obtain ⟨k0, k1, k2, k3, k4⟩ := h5.cells
          exact bodyPost_ret (v := .tuple #[.agg #[.int .u64 0, .int .i64 0, .int .i64 0, .int .i64 0, .int .i64 0], .int .i64 12]) (by simp [results, Try.results15, go_sem, k0, k1, k2, k3, k4]) rfl ⟨rfl, by rw [HBZ.out]; exact HB1.out.trans hb5⟩
      · have hE := Ht.resE_old hj (by rw [hW.el]; exact hjn) hg
        have hV : t.resV h = En.z := if_neg (by rw [hE]; omega)
        have hgb : (t.s.gen.getD j 0 != wGn h) = true := by simpa using hg
        rw [hE, hV]
        generalize t.s.gen.getD j 0 = gv at *
        clear H hS HS0 hk hba hE hV hW hj hu q0 q1 hlv hof
        go_enter Try.func15, Try.ntmps15
        go_wp2_with fail
        generalize w.alloc (.cells #[.int .u64 0, .int .i64 0, .int .i64 0, .int .i64 0, .int .i64 0] 44) = w0 at *
        generalize hbz : w.heap.size = b0 at *
        have HBZ := Lib.hid hbz
        clear hbz
        refine (HSL.out _).mono ?_
        rintro e w2 ⟨rfl, rfl⟩
        go_wp2_with fail
        refine (HGN.out _ q0').mono ?_
        rintro e w2 ⟨rfl, rfl⟩
        go_wp2_with fail
        refine HZ.out.mono ?_
        rintro e w2 ⟨rfl, rfl⟩
        go_wp2_with fail
        refine HL.out.mono ?_
        rintro e w2 ⟨rfl, rfl⟩
        go_wp2_with fail
        refine (HG.out _).mono ?_
        rintro e w2 ⟨rfl, rfl⟩
        have f0 := HE0.out.fr
        obtain ⟨c0, c1, c2, c3, c4⟩ := HE0.out.cells
        go_wp2
        obtain ⟨h5, hb5⟩ := HE0.out.set 0 0 0 0 0
        obtain ⟨k0, k1, k2, k3, k4⟩ := h5.cells
        exact bodyPost_ret (v := .tuple #[.agg #[.int .u64 0, .int .i64 0, .int .i64 0, .int .i64 0, .int .i64 0], .int .i64 11]) (by simp [results, Try.results15, go_sem, k0, k1, k2, k3, k4]) rfl ⟨rfl, by rw [HBZ.out]; exact HB0.out.trans hb5⟩
  · have hjn' : (j : Int) ≥ (n : Int) := by omega
    have hE : t.resE h = 10 := Ht.resE_slot (by rw [hW.el, hj]; omega)
    have hV : t.resV h = En.z := if_neg (by rw [hE]; omega)
    rw [hE, hV]
    clear H hS HS0 hk hba hE hV hW hj hu q0 q1 HL HT HG
    go_enter Try.func15, Try.ntmps15
    go_wp2_with fail
    generalize w.alloc (.cells #[.int .u64 0, .int .i64 0, .int .i64 0, .int .i64 0, .int .i64 0] 44) = w0 at *
    generalize hbz : w.heap.size = b0 at *
    have HBZ := Lib.hid hbz
    clear hbz
    refine (HSL.out _).mono ?_
    rintro e w2 ⟨rfl, rfl⟩
    go_wp2_with fail
    refine (HGN.out _ q0').mono ?_
    rintro e w2 ⟨rfl, rfl⟩
    go_wp2_with fail
    refine HZ.out.mono ?_
    rintro e w2 ⟨rfl, rfl⟩
    have f0 := HE0.out.fr
    obtain ⟨c0, c1, c2, c3, c4⟩ := HE0.out.cells
    go_wp2
    obtain ⟨h5, hb5⟩ := HE0.out.set 0 0 0 0 0
    obtain ⟨k0, k1, k2, k3, k4⟩ := h5.cells
    exact bodyPost_ret (v := .tuple #[.agg #[.int .u64 0, .int .i64 0, .int .i64 0, .int .i64 0, .int .i64 0], .int .i64 10]) (by simp [results, Try.results15, go_sem, k0, k1, k2, k3, k4]) rfl ⟨rfl, by rw [HBZ.out]; exact HB0.out.trans hb5⟩
end
section
open Go.ChangeShapes Go.WideShapes Go.RowKit
set_option linter.unusedVariables false
set_option linter.unusedSimpArgs false
set_option maxHeartbeats 4000000
set_option maxRecDepth 100000

theorem Ht.Wf.sameH {t : Ht} {N j : Nat} {h : Int} (H : t.Wf N) (hN : N ≤ 4096) (hs : wSl h = (j : Int)) (hd : t.lv j = true) (hg : t.s.gen.getD j 0 = wGn h) : (t.en j).h = h ↔ (t.en j).t = wTg h := by
  obtain ⟨h1, h2, _⟩ := H.en j hd
  have h3 := H.gn hd
  have h4 := H.lvlt hd
  unfold okT at h2
  constructor
  · intro e
    rw [← e, h1, word_tag (by omega) (by omega)]
  · intro e
    rw [h1, e, hg, ← hs, word_parts]
theorem resM_any (w : World) (c : Nat → Nat) (k p N : Nat) (t : Ht) (h : Int) (H : Hmb w c k p t) (hW : t.Wf N) (hN : N ≤ 4096) (hu : U64 h) :
    Calls Try.prog 16 #[.pointer (some ⟨p, 0, none⟩), .int .u64 h] w (RsE w t h) := by
  obtain ⟨A, n, cap, d, q, q0, q1, hk, hS⟩ := Inn.cells H
  have hba : Below w.heap.size w (w.alloc (.cells #[.int .u64 0, .int .i64 0, .int .i64 0, .int .i64 0, .int .i64 0] 44)) := (Below.refl _ _).alloc (Nat.le_refl _) _
  have HB0 := Lib.hid hba
  have HS0 := hS.go hba
  have hn : n = N := by have := hk.len; rw [hW.el] at this; omega
  subst hn
  have hcap := hk.cap
  have hsm := hk.small
  unfold maxLen at hsm
  obtain ⟨j, hj⟩ : ∃ j : Nat, wSl h = (j : Int) := ⟨(wSl h).toNat, by have := wSl_bd (x := h); omega⟩
  have HSL := Lib.hid (fun W => slotR_any h hu W)
  have HG := Lib.hid (fun W => genR_any h hu W)
  have HL := Lib.hid (ofM_any _ d 1 q t.s (j : Int) HS0 (by rw [hW.gs.gl, hW.gs.ll]))
  rw [hj] at HSL
  have q0' : (w.alloc (.cells #[.int .u64 0, .int .i64 0, .int .i64 0, .int .i64 0, .int .i64 0] 44)).cell? ⟨p, 0, none⟩ = some (.pointer (some ⟨q, 0, none⟩)) := cell_under q0 _
  have q1' : (w.alloc (.cells #[.int .u64 0, .int .i64 0, .int .i64 0, .int .i64 0, .int .i64 0] 44)).cell? ⟨p, 1, none⟩ = some (.slice A n cap) := cell_under q1 _
  have HE0 := Lib.hid (EnB.new (w := w) (h := 0) (o := 0) (t := 0) (f := 0) (l := 0))
  unfold RsE
  by_cases hjn : j < n
  · have hjn' : ¬ (j : Int) ≥ (n : Int) := by omega
    have hj1 : (j : Int) < (n : Int) := by omega
    cases hlv : t.lv j
    · have hE : t.resE h = 11 := Ht.resE_dead hj (by rw [hW.el]; exact hjn) hlv
      have hV : t.resV h = En.z := if_neg (by rw [hE]; omega)
      rw [Ht.of_dead hlv] at HL
      rw [hE, hV]
      clear H hS HS0 hk hba hE hV hW hj hu q0 q1 HG hlv
      go_enter Try.func16, Try.ntmps16
      go_wp2_with fail
      generalize w.alloc (.cells #[.int .u64 0, .int .i64 0, .int .i64 0, .int .i64 0, .int .i64 0] 44) = w0 at *
      generalize hbz : w.heap.size = b0 at *
      have HBZ := Lib.hid hbz
      clear hbz
      refine (HSL.out _).mono ?_
      rintro e w2 ⟨rfl, rfl⟩
      go_wp2_with fail
      refine HL.out.mono ?_
      rintro e w2 ⟨rfl, rfl⟩
      have f0 := HE0.out.fr
      obtain ⟨c0, c1, c2, c3, c4⟩ := HE0.out.cells
      go_wp2
      obtain ⟨h5, hb5⟩ := HE0.out.set 0 0 0 0 0
      obtain ⟨k0, k1, k2, k3, k4⟩ := h5.cells
      exact bodyPost_ret (v := .tuple #[.agg #[.int .u64 0, .int .i64 0, .int .i64 0, .int .i64 0, .int .i64 0], .int .i64 11]) (by simp [results, Try.results16, go_sem, k0, k1, k2, k3, k4]) rfl ⟨rfl, by rw [HBZ.out]; exact HB0.out.trans hb5⟩
    · have hof := Ht.of_live hlv
      rw [hof] at HL
      by_cases hg : t.s.gen.getD j 0 = wGn h
      · rw [hg] at HL
        have hsame := hW.sameH hN hj hlv hg
        by_cases ht : (t.en j).t = wTg h
        · obtain ⟨hE, hV⟩ := Ht.resE_is hj (by rw [hW.el]; exact hjn) hlv hg ht
          have hh := hsame.2 ht
          rw [hE, hV]
          obtain ⟨b, o, x, hx, rfl, hbb, g0, g1, g2, g3, g4⟩ := (hk.alloc (.cells #[.int .u64 0, .int .i64 0, .int .i64 0, .int .i64 0, .int .i64 0] 44)).en_at hjn
          obtain rfl : x = t.en j := by
            rw [Ht.en_at (by rw [hW.el]; exact hjn)] at hx
            exact (Option.some.inj hx).symm
          have hbw : w.heap.size ≠ b := by omega
          rw [hh] at g0
          rw [show enV (t.en j) = .agg #[.int .u64 h, .int .i64 (t.en j).o, .int .i64 (t.en j).t, .int .i64 (t.en j).f, .int .i64 (t.en j).l] from (by unfold enV; rw [hh])]
          generalize (t.en j).o = vo at *
          generalize (t.en j).f = vf at *
          generalize (t.en j).l = vl at *
          generalize (t.en j).t = vt at *
          clear H hS HS0 hk hba hE hV hW hj hu q0 q1 hlv hof hg ht hx hh hsame
          go_enter Try.func16, Try.ntmps16
          go_wp2_with fail
          generalize w.alloc (.cells #[.int .u64 0, .int .i64 0, .int .i64 0, .int .i64 0, .int .i64 0] 44) = w0 at *
          generalize hbz : w.heap.size = b0 at *
          have HBZ := Lib.hid hbz
          clear hbz
          refine (HSL.out _).mono ?_
          rintro e w2 ⟨rfl, rfl⟩
          go_wp2_with fail
          refine HL.out.mono ?_
          rintro e w2 ⟨rfl, rfl⟩
          go_wp2_with fail
          refine (HG.out _).mono ?_
          rintro e w2 ⟨rfl, rfl⟩
          have f0 := HE0.out.fr
          obtain ⟨c0, c1, c2, c3, c4⟩ := HE0.out.cells
          go_wp2
          obtain ⟨h5, hb5⟩ := HE0.out.set h vo vt vf vl
          obtain ⟨k0, k1, k2, k3, k4⟩ := h5.cells
          exact bodyPost_ret (v := .tuple #[.agg #[.int .u64 h, .int .i64 vo, .int .i64 vt, .int .i64 vf, .int .i64 vl], .int .i64 0]) (by simp [results, Try.results16, go_sem, k0, k1, k2, k3, k4]) rfl ⟨rfl, by rw [HBZ.out]; exact HB0.out.trans hb5⟩
        · have hE := Ht.resE_tag hj (by rw [hW.el]; exact hjn) hlv hg ht
          have hV : t.resV h = En.z := if_neg (by rw [hE]; omega)
          have hhb : ((t.en j).h != h) = true := by simpa using fun e => ht (hsame.1 e)
          rw [hE, hV]
          obtain ⟨b, o, x, hx, rfl, hbb, g0, g1, g2, g3, g4⟩ := (hk.alloc (.cells #[.int .u64 0, .int .i64 0, .int .i64 0, .int .i64 0, .int .i64 0] 44)).en_at hjn
          obtain rfl : x = t.en j := by
            rw [Ht.en_at (by rw [hW.el]; exact hjn)] at hx
            exact (Option.some.inj hx).symm
          have hbw : w.heap.size ≠ b := by omega
          clear H hS HS0 hk hba hE hV hW hj hu q0 q1 hlv hof hg hx hsame
          go_enter Try.func16, Try.ntmps16
          go_wp2_with fail
          generalize w.alloc (.cells #[.int .u64 0, .int .i64 0, .int .i64 0, .int .i64 0, .int .i64 0] 44) = w0 at *
          generalize hbz : w.heap.size = b0 at *
          have HBZ := Lib.hid hbz
          clear hbz
          refine (HSL.out _).mono ?_
          rintro e w2 ⟨rfl, rfl⟩
          go_wp2_with fail
          refine HL.out.mono ?_
          rintro e w2 ⟨rfl, rfl⟩
          go_wp2_with fail
          refine (HG.out _).mono ?_
          rintro e w2 ⟨rfl, rfl⟩
          have f0 := HE0.out.fr
          obtain ⟨c0, c1, c2, c3, c4⟩ := HE0.out.cells
          go_wp2
          obtain ⟨h5, hb5⟩ := HE0.out.set 0 0 0 0 0
          obtain ⟨k0, k1, k2, k3, k4⟩ := h5.cells
          exact bodyPost_ret (v := .tuple #[.agg #[.int .u64 0, .int .i64 0, .int .i64 0, .int .i64 0, .int .i64 0], .int .i64 12]) (by simp [results, Try.results16, go_sem, k0, k1, k2, k3, k4]) rfl ⟨rfl, by rw [HBZ.out]; exact HB0.out.trans hb5⟩
      · have hE := Ht.resE_old hj (by rw [hW.el]; exact hjn) hg
        have hV : t.resV h = En.z := if_neg (by rw [hE]; omega)
        have hgb : (t.s.gen.getD j 0 != wGn h) = true := by simpa using hg
        rw [hE, hV]
        generalize t.s.gen.getD j 0 = gv at *
        clear H hS HS0 hk hba hE hV hW hj hu q0 q1 hlv hof
        go_enter Try.func16, Try.ntmps16
        go_wp2_with fail
        generalize w.alloc (.cells #[.int .u64 0, .int .i64 0, .int .i64 0, .int .i64 0, .int .i64 0] 44) = w0 at *
        generalize hbz : w.heap.size = b0 at *
        have HBZ := Lib.hid hbz
        clear hbz
        refine (HSL.out _).mono ?_
        rintro e w2 ⟨rfl, rfl⟩
        go_wp2_with fail
        refine HL.out.mono ?_
        rintro e w2 ⟨rfl, rfl⟩
        go_wp2_with fail
        refine (HG.out _).mono ?_
        rintro e w2 ⟨rfl, rfl⟩
        have f0 := HE0.out.fr
        obtain ⟨c0, c1, c2, c3, c4⟩ := HE0.out.cells
        go_wp2
        obtain ⟨h5, hb5⟩ := HE0.out.set 0 0 0 0 0
        obtain ⟨k0, k1, k2, k3, k4⟩ := h5.cells
        exact bodyPost_ret (v := .tuple #[.agg #[.int .u64 0, .int .i64 0, .int .i64 0, .int .i64 0, .int .i64 0], .int .i64 11]) (by simp [results, Try.results16, go_sem, k0, k1, k2, k3, k4]) rfl ⟨rfl, by rw [HBZ.out]; exact HB0.out.trans hb5⟩
  · have hjn' : (j : Int) ≥ (n : Int) := by omega
    have hE : t.resE h = 10 := Ht.resE_slot (by rw [hW.el, hj]; omega)
    have hV : t.resV h = En.z := if_neg (by rw [hE]; omega)
    rw [hE, hV]
    clear H hS HS0 hk hba hE hV hW hj hu q0 q1 HL HG
    go_enter Try.func16, Try.ntmps16
    go_wp2_with fail
    generalize w.alloc (.cells #[.int .u64 0, .int .i64 0, .int .i64 0, .int .i64 0, .int .i64 0] 44) = w0 at *
    generalize hbz : w.heap.size = b0 at *
    have HBZ := Lib.hid hbz
    clear hbz
    refine (HSL.out _).mono ?_
    rintro e w2 ⟨rfl, rfl⟩
    have f0 := HE0.out.fr
    obtain ⟨c0, c1, c2, c3, c4⟩ := HE0.out.cells
    go_wp2
    obtain ⟨h5, hb5⟩ := HE0.out.set 0 0 0 0 0
    obtain ⟨k0, k1, k2, k3, k4⟩ := h5.cells
    exact bodyPost_ret (v := .tuple #[.agg #[.int .u64 0, .int .i64 0, .int .i64 0, .int .i64 0, .int .i64 0], .int .i64 10]) (by simp [results, Try.results16, go_sem, k0, k1, k2, k3, k4]) rfl ⟨rfl, by rw [HBZ.out]; exact HB0.out.trans hb5⟩
end
section
open Go.ChangeShapes Go.WideShapes Go.RowKit
set_option linter.unusedVariables false
set_option linter.unusedSimpArgs false
set_option maxHeartbeats 4000000
set_option maxRecDepth 100000

theorem made_five (a b c d e : Value) (n : Nat) : (madeCells #[a, b, c, d, e] (n * 5)).toList = (List.replicate n [a, b, c, d, e]).flatten := by
  induction n with
  | zero => simp [madeCells]
  | succ n ih =>
    rw [List.replicate_succ', List.flatten_append, ← ih]
    unfold madeCells
    rw [show (n + 1) * 5 = n * 5 + 1 + 1 + 1 + 1 + 1 by omega]
    simp only [Array.toList_map, Array.toList_range, List.range_succ, List.map_append, List.map_cons, List.map_nil, List.append_assoc, List.size_toArray, List.length_cons, List.length_nil]
    have h1 : n * 5 % (0 + 1 + 1 + 1 + 1 + 1) = 0 := by omega
    have h2 : (n * 5 + 1) % (0 + 1 + 1 + 1 + 1 + 1) = 1 := by omega
    have h3 : (n * 5 + 1 + 1) % (0 + 1 + 1 + 1 + 1 + 1) = 2 := by omega
    have h4 : (n * 5 + 1 + 1 + 1) % (0 + 1 + 1 + 1 + 1 + 1) = 3 := by omega
    have h5 : (n * 5 + 1 + 1 + 1 + 1) % (0 + 1 + 1 + 1 + 1 + 1) = 4 := by omega
    rw [h1, h2, h3, h4, h5]
    rfl
theorem en_rep (n : Nat) : en5.row (List.replicate n En.z) = (List.replicate n [Value.int .u64 0, .int .i64 0, .int .i64 0, .int .i64 0, .int .i64 0]).flatten := by
  induction n with
  | zero => rfl
  | succ n ih => rw [List.replicate_succ, List.replicate_succ, List.flatten_cons, Enc.row, ih]; rfl
theorem made_ens {w : World} {base n : Nat} {v : Value} (h : w.ownsRow base 44 5 v n (madeCells (Value.agg #[.int .u64 0, .int .i64 0, .int .i64 0, .int .i64 0, .int .i64 0]).cells (n * 5)).toList) :
    OwnK en5 44 w base v (List.replicate n En.z) := by
  rw [show (Value.agg #[.int .u64 0, .int .i64 0, .int .i64 0, .int .i64 0, .int .i64 0]).cells = #[.int .u64 0, .int .i64 0, .int .i64 0, .int .i64 0, .int .i64 0] from rfl, made_five, ← en_rep] at h
  unfold OwnK
  rw [List.length_replicate]
  exact h
/-- A new table: behind the making of its slots and of its row. -/
theorem Inn.made {Sl : World → (Nat → Nat) → Nat → Nat → Gs → Prop} (K : KeptLaw Sl) {ty : TypeId} {w w2 w3 : World} {c : Nat → Nat} {k q : Nat} {v : Value} {s : Gs} {l : List En} (hS : Sl w2 (rc (fun _ => 0) w.heap.size 1) 1 q s) (hb : Below w.heap.size w w2)
    (ho : OwnK en5 44 w3 w2.heap.size v l) (hg : w2.grownBy w3 none) :
    Inn Sl ty (w3.alloc (.cells #[.pointer (some ⟨q, 0, none⟩), v] ty)) (rc c w.heap.size k) k w3.heap.size s l ∧ Below w.heap.size w (w3.alloc (.cells #[.pointer (some ⟨q, 0, none⟩), v] ty)) := by
  have hz1 := hb.size
  have hz2 := hg.size
  have hb3 : Below w2.heap.size w2 (w3.alloc (.cells #[.pointer (some ⟨q, 0, none⟩), v] ty)) := ((Below.refl _ _).grown hg (Nat.le_refl _) (fun r e => by cases e)).alloc hz2 _
  refine ⟨⟨fun g => if g < w2.heap.size then rc (fun _ => 0) w.heap.size 1 g else 0, q, v, heap_alloc_new w3 _, (ho.down (Nat.zero_le _)).alloc _, K.k hS (j := 2) (Kept.ofBelow hb3) (by omega) (fun g hg => if_pos hg), rc_new (by omega), if_neg (by omega), fun g hgo => ?_, fun g hgl => ?_⟩, hb.trans (hb3.mono hz1)⟩
  · have := ho.ge hgo
    exact ⟨rc_new (by omega), if_neg (by omega), by omega⟩
  · by_cases h2 : g < w2.heap.size
    · simp only [if_pos h2]
      by_cases h1 : g < w.heap.size
      · exact .inr (rc_old h1)
      · exact .inl ⟨rc_new (by omega), rc_new (by omega)⟩
    · exact .inr (if_neg h2)
def NwE (Tb : World → (Nat → Nat) → Nat → Nat → Ht → Prop) (w : World) (c : Nat → Nat) (k : Nat) (n first : Int) (e : Ending) (w' : World) : Prop :=
  (nsE n first = 1 ∧ e = .returned (.tuple #[.pointer none, .int .i64 1]) ∧ Below w.heap.size w w') ∨
    (nsE n first = 0 ∧ ∃ p, e = .returned (.tuple #[.pointer (some ⟨p, 0, none⟩), .int .i64 0]) ∧ w.heap.size ≤ p ∧ Tb w' (rc c w.heap.size k) k p (Ht.new n.toNat first) ∧ Below w.heap.size w w')
theorem ns_range {n first : Int} (h : nsE n first = 0) : 0 ≤ n ∧ n ≤ 4096 ∧ 1 ≤ first ∧ first ≤ 4294967295 := by
  unfold nsE at h
  split at h
  · omega
  · omega
theorem newT_any (n first : Int) (w : World) (c : Nat → Nat) (k : Nat) : Calls Try.prog 9 #[.int .i64 n, .int .i64 first] w (NwE Htb w c k n first) := by
  have HN := Lib.hid (newS_any n first w (fun _ => 0) 1 (fun _ _ => by omega))
  unfold NsS at HN
  obtain ⟨i0, hi, hz0, hz1, hz2⟩ := info_parts infoEn
  go_enter Try.func9, Try.ntmps9
  go_wp2_with fail
  refine HN.out.mono ?_
  rintro e w2 (⟨h1, rfl, hb⟩ | ⟨h1, q, rfl, hq, hS, hb⟩)
  · have HB := Lib.hid (Below.refl w.heap.size w)
    have HX := Lib.hid hb
    clear hi hz0 hb HN
    go_wp2
    go_ret2
    exact .inl ⟨h1, rfl, HX.out⟩
  · have HR := Lib.hid (ns_range h1)
    obtain ⟨N, rfl⟩ : ∃ N : Nat, n = (N : Int) := ⟨n.toNat, by have := HR.out; omega⟩
    have hN : N ≤ 4096 := by have := HR.out; omega
    have HS := Lib.hid hS
    have HB := Lib.hid hb
    have H1 := Lib.hid h1
    clear hS hb HN h1
    go_wp2_with (at_make; refine wpList_make_full _ rfl _ _ 55 rfl w2.heap.size 44 i0 _ 5 Try.underlying55 hi hz0 hz1 _ _ _ _ N rfl rfl rfl rfl (by rw [hz2]; omega) (by unfold maxLen; omega) (Nat.le_refl _) ?_; intro w3 hown hg; have HM := Lib.hid (Inn.made (ty := 63) (c := c) (k := k) kl_sls HS.out HB.out (made_ens hown) hg); have hz3 : w2.heap.size ≤ w3.heap.size := hg.size; clear hown hg)
    go_ret2
    refine .inr ⟨H1.out, w3.heap.size, rfl, by have := HB.out.size; omega, ?_, HM.out.2⟩
    rw [Int.toNat_natCast] at HM ⊢
    unfold Htb
    rw [Ht.pe_new]
    exact HM.out.1
theorem newM13_any (n first : Int) (w : World) (c : Nat → Nat) (k : Nat) : Calls Try.prog 11 #[.int .i64 n, .int .i64 first] w (NwE Hmb w c k n first) := by
  have HN := Lib.hid (newM_any n first w (fun _ => 0) 1 (fun _ _ => by omega))
  unfold NsE at HN
  obtain ⟨i0, hi, hz0, hz1, hz2⟩ := info_parts infoEn
  go_enter Try.func11, Try.ntmps11
  go_wp2_with fail
  refine HN.out.mono ?_
  rintro e w2 (⟨h1, rfl, hb⟩ | ⟨h1, q, rfl, hq, hS, hb⟩)
  · have HB := Lib.hid (Below.refl w.heap.size w)
    have HX := Lib.hid hb
    clear hi hz0 hb HN
    go_wp2
    go_ret2
    exact .inl ⟨h1, rfl, by rw [← HX.out]; exact HB.out⟩
  · have HR := Lib.hid (ns_range h1)
    obtain ⟨N, rfl⟩ : ∃ N : Nat, n = (N : Int) := ⟨n.toNat, by have := HR.out; omega⟩
    have hN : N ≤ 4096 := by have := HR.out; omega
    have HS := Lib.hid hS
    have HB := Lib.hid hb
    have H1 := Lib.hid h1
    clear hS hb HN h1
    go_wp2_with (at_make; refine wpList_make_full _ rfl _ _ 55 rfl w2.heap.size 44 i0 _ 5 Try.underlying55 hi hz0 hz1 _ _ _ _ N rfl rfl rfl rfl (by rw [hz2]; omega) (by unfold maxLen; omega) (Nat.le_refl _) ?_; intro w3 hown hg; have HM := Lib.hid (Inn.made (ty := 76) (c := c) (k := k) kl_mgs HS.out HB.out (made_ens hown) hg); have hz3 : w2.heap.size ≤ w3.heap.size := hg.size; clear hown hg)
    go_ret2
    refine .inr ⟨H1.out, w3.heap.size, rfl, by have := HB.out.size; omega, ?_, HM.out.2⟩
    rw [Int.toNat_natCast] at HM ⊢
    exact HM.out.1
end
end Go.Proofs.Ytaoojgnkbcoggaa
