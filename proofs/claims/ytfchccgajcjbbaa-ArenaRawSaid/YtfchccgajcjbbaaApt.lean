/-
  What ArenaApart needs: the offset changes nothing, the chosen extent as a value, and accesses to one extent keep the bytes outside of it. Conditions: at most nine hundred extents.
-/
import Derived.Test.YtfchccgajcjbbaaSrt
import Derived.Test.YtfchccgajcjbbaaSth
namespace Go.Proofs.Ytfchccgajcjbbaa
open Go.ChangeShapes Go.WideShapes Go.ChangeAt Go.RowKit
set_option maxHeartbeats 8000000
set_option maxRecDepth 100000

theorem off_is (x : Int) (w : World) (h : 0 ≤ x ∧ x ≤ 255) :
    Calls Try.prog 30 #[.int .u8 x] w fun e w' => e = .returned (.int .i64 (offV x)) ∧ w' = w := by
  obtain ⟨h0, h1⟩ := h
  have HV : Hid (x % 24 - x / 240 * 9 = offV x) := Lib.hid rfl
  go_enter Try.func30, Try.ntmps30
  go_wp2
  go_ret
  exact ⟨by rw [← HV.out]; rfl, rfl⟩
/-- The extent that the law picks, not spoilt. -/
def exV (U : List (Int × Int)) (k : Int) : Int × Int := if U.length = 0 then (k, 16) else U.getD (k % (U.length : Int)).toNat (0, 0)
theorem extent_is (c : Nat → Nat) (q g : Nat) (U : List (Int × Int)) (bs : List Int) (k : Int) (w : World) (hm : Mrn w c q g U bs) (hi : Ins bs.length U) (hU : U.length ≤ 900) (hk : 0 ≤ k ∧ k ≤ 255) :
    Calls Try.prog 13 #[.pointer (some ⟨q, 0, none⟩), .int .u8 k, .int .u8 0] w fun e w' => e = .returned (.agg #[.int .i64 (exV U k).1, .int .i64 (exV U k).2]) ∧ Below w.heap.size w w' := by
  obtain ⟨k0, k1⟩ := hk
  have hb0 : Below w.heap.size w (w.alloc (.cells #[.int .i64 0, .int .i64 0] 31)) := (Below.refl _ _).alloc (Nat.le_refl _) _
  have hs0 : (w.alloc (.cells #[.int .i64 0, .int .i64 0] 31)).heap.size = w.heap.size + 1 := by simp
  have hx0 := Box.new (w := w) (x := 0) (y := 0)
  have hb1 : Below w.heap.size w ((w.alloc (.cells #[.int .i64 0, .int .i64 0] 31)).alloc (.cells #[.int .i64 k, .int .i64 16] 31)) := hb0.alloc hb0.size _
  have hx1 := Box.new (w := w.alloc (.cells #[.int .i64 0, .int .i64 0] 31)) (x := k) (y := 16)
  have hx01 := hx0.go ((Below.refl _ _).alloc (Nat.le_refl _) (.cells #[.int .i64 k, .int .i64 16] 31))
  rw [hs0] at hx1
  obtain ⟨Au, nu, cu, _, hc1, hx⟩ := hm.mo.open_
  have hlen := hx.len
  have hnu : nu ≤ 900 := by omega
  have HEX := Lib.hid (show exV U k = if U.length = 0 then (k, 16) else U.getD (k % (U.length : Int)).toNat (0, 0) from rfl)
  rw [hlen] at HEX
  generalize exV U k = ev at *
  have hqlt := hm.lt
  have HX := Lib.hid (hx.go hb1)
  have HIN := Lib.hid hi
  have hcap := hx.cap
  have hsm := hx.small
  unfold maxLen at hsm
  have HB1 := Lib.hid hb1
  have HX0 := Lib.hid hx01
  have HX1 := Lib.hid hx1
  have HCU := Lib.hid hc1
  have hSM := hm.small
  clear hm hi hx hb0 hb1 hx0 hx1 hx01 hs0 hlen
  by_cases hz : nu = 0
  · subst hz
    have HEV := Lib.hid (HEX.out.trans (if_pos rfl))
    clear HX
    go_enter Try.func13, Try.ntmps13
    go_wp2
    exact bodyPost_ret (v := .agg #[.int .i64 k, .int .i64 16]) (by simp [results, Try.results13, go_sem]) rfl ⟨by rw [HEV.out], ((Below.refl _ _).alloc (Nat.le_refl _) _).alloc (by simp) _⟩
  · have hne : ¬ ((nu : Int) = 0) := by omega
    have hpos : (0 : Int) < (nu : Int) := by omega
    have hm0 : 0 ≤ k % (nu : Int) := Int.emod_nonneg _ hne
    have hm1 : k % (nu : Int) < (nu : Int) := Int.emod_lt_of_pos _ (by omega)
    obtain ⟨j, hj⟩ : ∃ j : Nat, k % (nu : Int) = (j : Int) := ⟨(k % (nu : Int)).toNat, by omega⟩
    have htm : k.tmod (nu : Int) = (j : Int) := by rw [Int.tmod_eq_emod_of_nonneg k0]; exact hj
    have hjn : j < nu := by omega
    obtain ⟨b, o, u, v, hu, rfl, hb, hcu, hcv, _, _, _, _⟩ := HX.out.at_ hjn
    have HEV : Hid (ev = (u, v)) := Lib.hid (by
      rw [HEX.out, if_neg hz, hj, Int.toNat_natCast, List.getD_eq_getElem?_getD, hu]; rfl)
    obtain ⟨u0, v0, uv, v1⟩ := HIN.out u v (List.mem_of_getElem? hu)
    have hj1 : (j : Int) < (nu : Int) := by omega
    have hj0 : ¬ (j : Int) < 0 := by omega
    have hwj : IntKind.i64.wrap (j : Int) = j := by rw [IntKind.wrap_i64]; omega
    have HCUV := Lib.hid (And.intro hcu hcv)
    have HC1 : Hid (((w.alloc (.cells #[.int .i64 0, .int .i64 0] 31)).alloc (.cells #[.int .i64 k, .int .i64 16] 31)).cell? ⟨q, 1, none⟩ = some (.slice (some ⟨b, o, none⟩) nu cu)) := Lib.hid (cell_under (cell_under HCU.out _) _)
    clear hcu hcv hu hm0 hm1 HX HIN hj HEX
    go_enter Try.func13, Try.ntmps13
    go_wp2
    generalize (w.alloc (.cells #[.int .i64 0, .int .i64 0] 31)).alloc (.cells #[.int .i64 k, .int .i64 16] 31) = w2 at *
    have a1 : ∀ m : Later w2, m.val.cell? ⟨q, 1, none⟩ = some (.slice (some ⟨b, o, none⟩) nu cu) := fun m => later_old m HC1.out
    have a2 : ∀ m : Later w2, m.val.cell? ⟨b, o + j * 2, none⟩ = some (.int .i64 u) := fun m => later_old m HCUV.out.1
    have a3 : ∀ m : Later w2, m.val.cell? ⟨b, o + j * 2 + 1, none⟩ = some (.int .i64 v) := fun m => later_old m HCUV.out.2
    refine wp_region_later_tail 16 (by kernel_rfl) (by kernel_rfl) ?_
    simp only [List.take_succ_cons, List.take_zero, List.drop_succ_cons, List.drop_zero]
    repeat (go_big_quiet_step (fail))
    refine wpQuiet_nil ?_
    rintro w7 ⟨⟨_, hq⟩, rfl⟩
    have HB7 := Lib.hid (Below.then HB1.out hq (Nat.le_refl _))
    have HX0 := Lib.hid (HX0.out.go hq)
    have HX1 := Lib.hid (HX1.out.go hq)
    have g2 := HX1.out.fr0
    have g3 := HX1.out.fr1
    have g4 := HX1.out.cell0
    have g5 := HX1.out.cell1
    have hw7 : w.heap.size < w7.heap.size := HX0.out.lt
    clear a1 a2 a3 hq HB1
    have hx8 := HX1.out.set u v
    have hy8 := (HX0.out.setc (b' := w.heap.size + 1) (o := 0) (by omega) (.int .i64 u)).setc (b' := w.heap.size + 1) (o := 1) (by omega) (.int .i64 v)
    have hb8 : Below w.heap.size w ((w7.setCell ⟨w.heap.size + 1, 0, none⟩ (.int .i64 u)).setCell ⟨w.heap.size + 1, 1, none⟩ (.int .i64 v)) := (HB7.out.setCell (p := ⟨w.heap.size + 1, 0, none⟩) (by simp) (.int .i64 u)).setCell (p := ⟨w.heap.size + 1, 1, none⟩) (by simp) (.int .i64 v)
    have hbz := (hb8.setCell (p := ⟨w.heap.size, 0, none⟩) (by simp) (.int .i64 u)).setCell (p := ⟨w.heap.size, 1, none⟩) (by simp) (.int .i64 v)
    have hyz := hy8.set u v
    have HBZ := Lib.hid hbz
    have e2 := hx8.cell0
    have e3 := hx8.cell1
    have e4 := hy8.cell0
    have e5 := hy8.cell1
    have e6 := hy8.fr0
    have e7 := hy8.fr1
    have e8 := hyz.cell0
    have e9 := hyz.cell1
    clear hx8 hy8 hb8 hbz hyz
    go_wp2
    exact bodyPost_ret (v := .agg #[.int .i64 u, .int .i64 v]) (by simp [results, Try.results13, go_sem, e8, e9]) rfl ⟨by rw [HEV.out], HBZ.out⟩

/-- Two lists of bytes agree outside an extent. -/
def Ag (x y : Int) (bs b1 : List Int) : Prop := b1.length = bs.length ∧ ∀ i : Nat, ¬ (x ≤ (i : Int) ∧ (i : Int) < x + y) → b1.getD i 0 = bs.getD i 0
theorem ag_pt {x y : Int} {bs b1 l : List Int} {o : Nat} (h : Ag x y bs b1) (h0 : x ≤ o) (h1 : (o : Int) + l.length ≤ x + y) : Ag x y bs (pt b1 o l) :=
  ⟨pt_len.trans h.1, fun i hi => by
    rw [pt_getD, if_neg (fun hc => hi ⟨by omega, by omega⟩)]
    exact h.2 i hi⟩
section
variable {n : Int} {F A : List (Int × Int)} {x y off : Int} {bs b1 : List Int}
theorem ag_stB {v : Int} {N : Nat} (h : Ag x y bs b1) (hv : Gd n F A) : Ag x y bs (stB A b1 x y off N v) := by
  unfold stB
  by_cases hc : stC A x y off N v = 0
  · rw [if_pos hc]
    have hn : numC A x y off N = 0 := by
      unfold stC at hc
      by_cases h0 : numC A x y off N = 0
      · exact h0
      · rw [if_neg h0] at hc; exact absurd hc h0
    obtain ⟨hm, _, hw⟩ := numC_0 hn
    obtain ⟨o0, o1⟩ := wi_is hw
    have hx := (hv.inn _ hm).1
    simp only at hx
    exact ag_pt h (by omega) (by rw [by8_len]; omega)
  · rw [if_neg hc]; exact h
theorem ag_wrB {l : List Int} (h : Ag x y bs b1) (hv : Gd n F A) : Ag x y bs (wrB A b1 x y off l) := by
  unfold wrB
  by_cases hc : bytC A x y off l.length = 0
  · rw [if_pos hc]
    obtain ⟨hm, _, hw⟩ := bytC_0 hc
    obtain ⟨o0, o1⟩ := wi_is hw
    have hx := (hv.inn _ hm).1
    simp only at hx
    exact ag_pt h (by omega) (by omega)
  · rw [if_neg hc]; exact h
theorem ag_cpB {u v fr m : Int} (h : Ag x y bs b1) (hv : Gd n F A) : Ag x y bs (cpB A b1 x y off u v fr m) := by
  by_cases hm : (x, y) ∈ A ∧ (u, v) ∈ A
  · by_cases hn : m < 0
    · rw [(cp1 hm hn).2]; exact h
    · by_cases hw : wi off m y = true ∧ wi fr m v = true
      · rw [(cp0 hm hn hw).2]
        obtain ⟨o0, o1⟩ := wi_is hw.1
        have hx := (hv.inn _ hm.1).1
        simp only at hx
        have hl : ((b1.drop (u + fr).toNat).take m.toNat).length ≤ m.toNat := by rw [List.length_take]; omega
        exact ag_pt h (by omega) (by omega)
      · rw [(cp7 hm hn hw).2]; exact h
  · rw [(cp6 hm).2]; exact h
end
theorem Row.ks9 {w w' : World} {c : Nat → Nat} {n cp : Nat} {A : Option Addr} {vs : List Value} (h : Row w w.heap.size A n cp vs) (hk : KS Sa c w w') (hne : ∀ b o, A = some ⟨b, o, none⟩ → c b = 9) : Row w' w'.heap.size A n cp vs :=
  ⟨h.len, h.cap, h.small, h.nil, fun hn => by
    obtain ⟨b, o, e, hb, hc⟩ := h.cells hn
    refine ⟨b, o, e, Nat.lt_of_lt_of_le hb hk.size, fun i hi => ?_⟩
    rw [← hc i hi]
    simp only [World.cell?, hk.block b hb (by rw [hne b o e]; exact sa_9)]⟩
theorem Pos.ks {w w' : World} {c : Nat → Nat} {a p g q g2 : Nat} {F A U : List (Int × Int)} {b1 b2 : List Int} (h : Pos w c a p g q g2 F A b1 U b2 w') : KS Sa c w w' := by
  obtain ⟨c', _, _, h3, _⟩ := h.ex
  exact h3
theorem Pos.six {w w' : World} {c : Nat → Nat} {a p g q g2 t : Nat} {F A U : List (Int × Int)} {b1 b2 l : List Int} (h : Pos w c a p g q g2 F A b1 U b2 w') (hb : Six w t l) (ht : c t = 9) : Six w' t l := (h.block hb.lt (by rw [ht]; exact sa_9)).trans hb
theorem Pos.box9 {w w' : World} {c : Nat → Nat} {a p g q g2 t : Nat} {F A U : List (Int × Int)} {b1 b2 : List Int} {x y : Int} (h : Pos w c a p g q g2 F A b1 U b2 w') (hb : Box w t x y) (ht : c t = 9) : Box w' t x y := (h.block hb.lt (by rw [ht]; exact sa_9)).trans hb
end Go.Proofs.Ytfchccgajcjbbaa
