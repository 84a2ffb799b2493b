/-
  The law AllocatorDrains as a walk: it returns true and changes nothing that was there. No conditions.
-/
import Derived.Test.YtbiamhandhbodaaUnLaw
namespace Go.Proofs.Ytbiamhandhbodaa
open Go.ChangeShapes Go.WideShapes Go.ChangeAt Go.RowKit
set_option maxHeartbeats 8000000
set_option maxRecDepth 100000

/-- The length of a slice. -/
def lenV : Value → Nat | .slice _ n _ => n | _ => 0
theorem gd_empty {n : Int} {F : List (Int × Int)} (h : Gd n F []) : F = if n = 0 then [] else [(0, n)] := by
  rw [gd_uniq h (gd_new h.n0 h.n1)]
  unfold cmp gaps lst btw
  by_cases hn : n = 0
  · simp [hn]
  · have : ¬ 0 = n := fun e => hn e.symm
    simp [hn, this]
/-- Where the next extent to free is. -/
theorem order_at (Ao : Option Addr) (lo co : Nat) (L : List Int) (k : Nat) (nl : Nat) (w : World) (h : Row w w.heap.size Ao lo co (iv .u8 L)) (hf : Fit .u8 L) (hn : 0 < nl) (hk : k < lo) :
    ∃ (b o : Nat) (x : Int) (i : Nat), Ao = some ⟨b, o, none⟩ ∧ b < w.heap.size ∧ w.cell? ⟨b, o + k, none⟩ = some (.int .u8 x) ∧ 0 ≤ x ∧ x ≤ 255 ∧ x.tmod (nl : Int) = (i : Int) ∧ i < nl := by
  obtain ⟨b, o, e, hb, hc⟩ := h.int hk
  have hx := byte_bd (hf.at_ (by decide) k)
  have hm0 : 0 ≤ L.getD k 0 % (nl : Int) := Int.emod_nonneg _ (by omega)
  have hm1 : L.getD k 0 % (nl : Int) < (nl : Int) := Int.emod_lt_of_pos _ (by omega)
  exact ⟨b, o, L.getD k 0, (L.getD k 0 % (nl : Int)).toNat, e, hb, hc, hx.1, hx.2, by rw [Int.tmod_eq_emod_of_nonneg hx.1]; omega, by omega⟩

theorem allocatorDrains_walk (r : Int) (At : Option Addr) (m ct : Nat) (Ao : Option Addr) (lo co : Nat) (Lz : List Int) (w : World) (hr : (Lit.int .u16 r).wf = true) (ht : Tri w w.heap.size At m ct) (hord : IsRow .u8 w Ao lo co Lz) :
    Calls Try.prog 6 #[.int .u16 r, .slice At m ct, .slice Ao lo co] w fun e w' => e = .returned (.bool true) ∧ Below w.heap.size w w' := by
  obtain ⟨i0, hi0, hz0, hz1, hz2⟩ := info_parts infoE
  have hr1 := Go.bounds_u16 hr
  have hn0 : 0 ≤ r % 2000 := by omega
  have hn1 : r % 2000 ≤ 1048576 := by omega
  have hn2 : r % 2000 < 2000 := by omega
  have H := Lib.hid (runs_any At m ct (r % 2000) w ht hn0 hn1)
  have HRW := Lib.hid hord.row
  have hlc : lo ≤ 9223372036854775807 := by have h1 := hord.row.1.cap; have h2 := hord.row.1.small; unfold maxLen at h2; omega
  clear ht hr hord
  go_enter Try.func6, Try.ntmps6
  go_wp2_with fail
  generalize r % 2000 = n at *
  refine H.out.mono ?_
  rintro e w1 ⟨c0, p, F0, A0, rfl, ha, hg, hl, hb, hc⟩
  have HA := Lib.hid (ha.recol (c' := rc c0 w1.heap.size 9) (fun g hg => rc_old hg))
  have HG := Lib.hid hg
  have HB := Lib.hid hb
  have hw1 := hb.size
  have HC : Hid ((∀ g, g < w.heap.size → rc c0 w1.heap.size 9 g = 0) ∧ ∀ g, w1.heap.size ≤ g → rc c0 w1.heap.size 9 g = 9) := Lib.hid ⟨fun g hg => by rw [rc_old (by omega)]; exact hc g hg, fun g hg => rc_new hg⟩
  generalize rc c0 w1.heap.size 9 = c1 at *
  clear H ha hg hb hc
  go_wp2_with fail
  refine (listed_any c1 1 p F0 A0 w1 HA.out (by omega)).mono ?_
  rintro e w2 ⟨v, rfl, ho, hb⟩
  obtain ⟨Al, nl, cl, rfl, hx⟩ := ho.shape
  have HO := Lib.hid ho
  have hlen0 := hx.len
  have HA2 := Lib.hid (HA.out.go hb)
  have HB2 := Lib.hid (Below.then HB.out hb (by omega))
  have hw2 := hb.size
  clear ho hb hx HA HB
  go_wp2
  go_loopw [10, 11] (fun lv kv wr => ∃ (Ar : Option Addr) (nr cr k : Nat), lv = .slice Ar nr cr ∧ kv = .int .i64 k ∧ k + nr ≤ 24 ∧ Hid ((∃ c F A, Alc wr c 1 p F A ∧ Gd n F A ∧ A.length = nr ∧ OwnE 39 wr 0 (.slice Ar nr cr) A ∧ (∀ g, (Value.slice Ar nr cr).ownBlock = some g → c g = 9) ∧ ∀ g, g < w.heap.size → c g = 0) ∧ Below w.heap.size w wr)) (fun lv _ _ => lenV lv)
  case atStart => exact ⟨Al, nl, cl, 0, rfl, rfl, by omega, Lib.hid ⟨⟨c1, F0, A0, HA2.out, HG.out, hlen0, HO.out.down (Nat.zero_le _), fun g hg => HC.out.2 g (HO.out.blk_ge hg), HC.out.1⟩, HB2.out⟩⟩
  case round =>
    obtain ⟨Ar, nr, cr, k, rfl, rfl, hk24, hh⟩ := hrel
    obtain ⟨⟨c, F, A, ha, hg, hlA, ho, hoc, hc⟩, hB⟩ := hh.out
    have HAl := Lib.hid ha
    have HGd := Lib.hid hg
    have HOl := Lib.hid ho
    have HOc := Lib.hid hoc
    have HCc := Lib.hid hc
    have HBl := Lib.hid hB
    have hBs := hB.size
    have hxl := ho.exs
    have hcapl := hxl.cap
    have hsml := hxl.small
    unfold maxLen at hsml
    clear hh ha hg ho hoc hc hB
    by_cases hpos : 0 < nr
    · have hpos' : (0 : Int) < (nr : Int) := by omega
      have hnz : ¬ ((nr : Int) = 0) := by omega
      -- the index
      have hIdx : ∃ i : Nat, i < nr ∧ ((k < lo ∧ ∃ (b o : Nat) (x : Int), Ao = some ⟨b, o, none⟩ ∧ wr.cell? ⟨b, o + k, none⟩ = some (.int .u8 x) ∧ 0 ≤ x ∧ x ≤ 255 ∧ x.tmod (nr : Int) = (i : Int)) ∨ (¬ k < lo ∧ i = 0)) := by
        by_cases hkl : k < lo
        · obtain ⟨b, o, x, i, e1, e2, e3, e4, e5, e6, e7⟩ := order_at Ao lo co (Lz.take lo) k nr w HRW.out.1 HRW.out.2 hpos hkl
          exact ⟨i, e7, .inl ⟨hkl, b, o, x, e1, (HBl.out.cell (p := ⟨b, o + k, none⟩) e2).trans e3, e4, e5, e6⟩⟩
        · exact ⟨0, hpos, .inr ⟨hkl, rfl⟩⟩
      obtain ⟨i, hin, hI⟩ := hIdx
      obtain ⟨b, o, x, y, hxy, hAr, hbw, g1, g2, x0, x1, y0, y1⟩ := hxl.at_ hin
      have HFy := Lib.hid (free_yes c 1 p i F A n x y wr HAl.out HGd.out (by omega) hxy)
      have HGf := Lib.hid (gd_free HGd.out hxy).1
      have hii : (i : Int) < (nr : Int) := by omega
      have hA' : (A.take i ++ A.drop (i + 1)).length = nr - 1 := by rw [List.length_append, List.length_take, List.length_drop]; omega
      subst hAr
      clear hxl hxy
      obtain ⟨Ah, hs1, hx1⟩ := cut_hi (some ⟨b, o, none⟩) nr cr A i (by omega) hcapl
      obtain ⟨Ac, hs2, hx2⟩ := cut_lo (some ⟨b, o, none⟩) nr cr A (i + 1) (by omega)
      have hs2 : ∀ wx : World, (Instr.slice 29 (.slice (some ⟨b, o, none⟩) nr cr) (some (.int .i64 ((i : Int) + 1))) none none).run Try.prog wx = .ok (.slice Ac (nr - (i + 1)) (cr - (i + 1))) wx := fun wx => by
        have := hs2 wx
        rwa [show ((i + 1 : Nat) : Int) = (i : Int) + 1 by omega] at this
      have hwi : IntKind.i64.wrap ((i : Int) + 1) = (i : Int) + 1 := by rw [IntKind.wrap_i64]; omega
      have HX1 := Lib.hid hx1
      have HX2 := Lib.hid hx2
      have HI := Lib.hid hi0
      have HZ := Lib.hid hz0
      clear hx1 hx2
      rcases hI with ⟨hkl, b', o', x', hAo, hcx, hx0, hx1, hmod⟩ | ⟨hkl, hi0'⟩
      all_goals
        first
          | (subst hAo
             have hkl' : (k : Int) < (lo : Int) := by omega)
          | (have hkl' : ¬ (k : Int) < (lo : Int) := by omega
             have g1' : wr.cell? ⟨b, o, none⟩ = some (.int .i64 x) := by rw [hi0'] at g1; simpa using g1
             have g2' : wr.cell? ⟨b, o + 1, none⟩ = some (.int .i64 y) := by rw [hi0'] at g2; simpa using g2
             have hs1' : ∀ wx : World, (Instr.slice 29 (.slice (some ⟨b, o, none⟩) nr cr) none (some (.int .i64 0)) none).run Try.prog wx = .ok (.slice Ah i cr) wx := fun wx => by
               have := hs1 wx
               rwa [show ((i : Nat) : Int) = 0 by omega] at this
             have hs2' : ∀ wx : World, (Instr.slice 29 (.slice (some ⟨b, o, none⟩) nr cr) (some (.int .i64 1)) none none).run Try.prog wx = .ok (.slice Ac (nr - (i + 1)) (cr - (i + 1))) wx := fun wx => by
               have := hs2 wx
               rwa [show (i : Int) + 1 = 1 by omega] at this
             have hw1' : IntKind.i64.wrap 1 = 1 := by rw [IntKind.wrap_i64]; omega
             clear g1 g2 hs1 hs2 hi0'
             have g1 := g1'
             have g2 := g2')
        go_wp2_with fail
        refine HFy.out.mono ?_
        rintro e w3 ⟨rfl, ha3, hk3⟩
        have hz3 := hk3.size
        have HA3 := Lib.hid ha3
        have HO3 := Lib.hid (HOl.out.keptC hk3 (fun g hg => by rw [HOc.out g hg]; omega))
        have HOB : Hid (∀ g, (Value.slice (some ⟨b, o, none⟩) nr cr).ownBlock = some g → g < wr.heap.size) := Lib.hid (fun g hg => HOl.out.blk_lt hg)
        have HB3 := Lib.hid (Below.trans HBl.out (hk3.below (B := w.heap.size) (fun g hg => by rw [HCc.out g hg]; omega) hBs))
        clear ha3 hk3 HFy HAl HOl HBl g1 g2
        go_wp2_with fail
        have ga : Hid (OwnE 39 (w3.drew.alloc (.cells #[] 39)) w3.heap.size (.slice (some ⟨w3.heap.size, 0, none⟩) 0 0) []) := Lib.hid ⟨World.ownsRow_made w3.drew #[] 0 (Nat.le_refl _) (Nat.zero_le _) rfl, Fits.nil⟩
        have hxd := HO3.out.exs.go (below_drewN (Below.refl w3.heap.size w3) 1)
        have xa := Lib.hid (HX1.out _ _ (hxd.alloc (.cells #[] 39)))
        have xb := Lib.hid (fun W (hW : Below w3.heap.size w3 W) => HX2.out W w3.heap.size (HO3.out.exs.below hW))
        have hAi : (A.take i).length ≤ 24 := by rw [List.length_take]; omega
        clear hxd
        go_region_law
          (first
            | (refine step_appE (w3.drew.alloc (.cells #[] 39)) rfl (.tmp 51) (.tmp 54) 29 rfl Try.underlying29 HI.out HZ.out rfl hz1 (by omega) ga.out rfl xa.out rfl (by simp; omega) (by simp) ?_
               intro v6 wa ho6 hb6 hg6
               obtain ⟨A6, n6, c6, rfl, hx6⟩ := ho6.shape
               have HO6 := Lib.hid ho6
               have HB6 : Hid (Below w3.heap.size w3 wa) := Lib.hid (Below.trans (B := w3.heap.size) ((below_drewN (Below.refl _ _) 1).alloc (Nat.le_refl _) _) hb6)
               have HS6 : Hid (w3.heap.size ≤ wa.heap.size) := Lib.hid HB6.out.size
               clear ho6 hb6 hg6 hx6)
            | (refine step_appE wa rfl (.tmp 55) (.tmp 59) 29 rfl Try.underlying29 HI.out HZ.out rfl hz1 (by omega) HO6.out rfl (xb.out wa HB6.out) rfl (by simp at hAi ⊢; omega) HS6.out ?_
               intro v7 wb ho7 hb7 hg7
               obtain ⟨A7, n7, c7, rfl, hx7⟩ := ho7.shape
               have HO7 := Lib.hid ho7
               have HB7 : Hid (Below w3.heap.size w3 wb) := Lib.hid (HB6.out.trans hb7)
               clear ho7 hb7 hg7 hx7))
        all_goals
          have ho7 := HO7.out
          rw [List.nil_append] at ho7
          have hl7 : n7 = nr - 1 := by have := ho7.exs.len; rw [hA'] at this; omega
          have HO8 := Lib.hid ho7
          have HL7 := Lib.hid hl7
          clear hl7 ho7 HO7 ga xa xb HO6 HB6 HS6
          go_wp2
          go_roundw
          case rel =>
            refine ⟨A7, n7, c7, k + 1, rfl, by go_num, by have := HL7.out; omega, Lib.hid ⟨⟨rc (rc c wr.heap.size 1) w3.heap.size 9, _, _, (HA3.out.recol (fun g hg => rc_old hg)).go HB7.out, HGf.out, by rw [hA']; exact HL7.out.symm, HO8.out.down (Nat.zero_le _), fun g hg => rc_new (HO8.out.blk_ge hg), fun g hg => ?_⟩, Below.then HB3.out HB7.out (by have := HB3.out.size; omega)⟩⟩
            rw [rc_old (by omega), rc_old (by omega)]
            exact HCc.out g hg
          case measure => have := HL7.out; simp [lenV]; omega
    · obtain rfl : nr = 0 := by omega
      have hpos' : ¬ (0 : Int) < ((0 : Nat) : Int) := by omega
      obtain rfl : A = [] := List.eq_nil_of_length_eq_zero hlA
      have hFE := gd_empty HGd.out
      have hF : F.length ≤ 1000000 := by have := gd_flen HGd.out; omega
      have H4 := Lib.hid (freeList_any c 1 p F [] wr HAl.out hF)
      clear hxl HOl HOc
      by_cases hnn : n = 0
      · rw [if_pos hnn] at hFE
        subst hFE
        subst hnn
        go_wp2_with fail
        refine H4.out.mono ?_
        rintro e w4 ⟨v, rfl, ho, hb⟩
        obtain ⟨Av, nv, cv, rfl, hxv⟩ := ho.shape
        obtain rfl : nv = 0 := hxv.len.symm
        have HB4 := Lib.hid (Below.then HBl.out hb (by have := HBl.out.size; omega))
        clear ho hb hxv H4
        go_wp2_with fail
        refine (awake6_any w4).mono ?_
        rintro e w5 ⟨rfl, hb⟩
        have HB5 := Lib.hid (Below.then HB4.out hb (by have := HB4.out.size; omega))
        clear hb HB4
        go_wp2
        go_ret
        exact ⟨rfl, HB5.out⟩
      · rw [if_neg hnn] at hFE
        subst hFE
        have hnn' : (n == 0) = false := by simpa using hnn
        go_wp2_with fail
        refine H4.out.mono ?_
        rintro e w4 ⟨v, rfl, ho, hb⟩
        obtain ⟨Av, nv, cv, rfl, hxv⟩ := ho.shape
        obtain rfl : nv = 1 := hxv.len.symm
        have HX4 := Lib.hid hxv
        have HB4 := Lib.hid (Below.then HBl.out hb (by have := HBl.out.size; omega))
        clear ho hb hxv H4
        go_wp2_with fail
        refine (awake6_any w4).mono ?_
        rintro e w5 ⟨rfl, hb⟩
        have HB5 := Lib.hid (Below.then HB4.out hb (by have := HB4.out.size; omega))
        obtain ⟨b, o, x, y, hxy, rfl, hbw, g1, g2, _⟩ := (HX4.out.go hb).at_ (k := 0) (by omega)
        simp at hxy
        obtain ⟨rfl, rfl⟩ := hxy
        simp only [Nat.zero_mul, Nat.add_zero] at g1 g2
        clear hb HB4 HX4
        go_wp2
        go_ret
        exact ⟨rfl, HB5.out⟩
end Go.Proofs.Ytbiamhandhbodaa
