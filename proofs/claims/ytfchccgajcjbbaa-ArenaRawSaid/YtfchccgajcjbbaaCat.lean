/-
  Contracts of slices.Grow at the nil slice and of slices.Concat, both over extents, and of the function that appends an extent between two offsets. Conditions: the lists have at most a million extents.
-/
import Derived.Test.YtfchccgajcjbbaaFind
import Derived.Lib.AppendZerosOnto
namespace Go.Proofs.Ytfchccgajcjbbaa
open Go.ChangeShapes Go.WideShapes Go.ChangeAt Go.RowKit
set_option maxHeartbeats 400000
set_option maxRecDepth 100000

/-- What a function says that makes a new list of extents. -/
def MadeE (w : World) (l : List (Int × Int)) (e : Ending) (w' : World) : Prop := ∃ v, e = .returned v ∧ OwnE 31 w' w.heap.size v l ∧ Below w.heap.size w w'

theorem grow_any (n : Nat) (w : World) (hn : n ≤ 1000000) :
    Calls Try.prog 88 #[.slice none 0 0, .int .i64 n] w (MadeE w []) := by
  by_cases h0 : n = 0
  · subst h0
    go_enter Try.func88, Try.ntmps88
    go_wp2
    go_ret
    exact ⟨_, rfl, OwnE.nil _ _ _, Below.refl _ _⟩
  · obtain ⟨i0, hi, hz0, hz1, hz2⟩ := info_parts infoE
    have h := fun ty => Lib.run_append_grow_zeros (P := Try.prog) w 34 3 ty 31 i0 _ .i64 .i64 Try.underlying34 Try.underlying3 hi hz0 none 0 0 [] (run_firstCells_none _ _ _ _ _) n (by omega) (by omega) (by omega) (by omega) (by rw [hz2]; omega)
      (growslice_fits (by omega) (by rw [hz2]; omega))
    have hg := grownCap_ge w (0 + n) 0 31
    have hl := grownCap_le_maxLen w (0 + n) 0 31 (by unfold maxLen; omega)
    generalize grownCap w (0 + n) 0 31 = G at *
    rw [Nat.zero_add] at h hg
    have hl' : G ≤ 9223372036854775807 := by unfold maxLen at hl; omega
    have HO : Hid (OwnE 31 (w.drew.alloc (.cells (([] : List Value).toArray ++ Builtin.zeroCells (Value.agg #[.int .i64 0, .int .i64 0]).cells n ++ Builtin.zeroCells (Value.agg #[.int .i64 0, .int .i64 0]).cells (G - n)) 31)) w.heap.size (.slice (some ⟨w.heap.size, 0, none⟩) 0 G) []) :=
      Lib.hid ⟨World.ownsRow_made w.drew _ G (Nat.le_refl _) hl (by
        simp only [Array.size_append, size_zeroCells]
        simp [Value.cells]
        omega), Fits.nil⟩
    have HB : Hid (Below w.heap.size w (w.drew.alloc (.cells (([] : List Value).toArray ++ Builtin.zeroCells (Value.agg #[.int .i64 0, .int .i64 0]).cells n ++ Builtin.zeroCells (Value.agg #[.int .i64 0, .int .i64 0]).cells (G - n)) 31))) :=
      Lib.hid ((below_drewN (Below.refl _ _) 1).alloc (Nat.le_refl _) _)
    generalize w.drew.alloc (.cells (([] : List Value).toArray ++ Builtin.zeroCells (Value.agg #[.int .i64 0, .int .i64 0]).cells n ++ Builtin.zeroCells (Value.agg #[.int .i64 0, .int .i64 0]).cells (G - n)) 31) = W at *
    have hn0 : (0 : Int) < (n : Int) := by omega
    have H := Lib.hid h
    clear h hi hz0 hz1 hz2 hl
    go_enter Try.func88, Try.ntmps88
    go_wp2_with (at_builtin; refine Lib.wpList_append_run _ rfl _ _ _ _ rfl _ _ rfl rfl _ _ (H.out _) ?_)
    go_ret
    exact ⟨_, rfl, HO.out, HB.out⟩

theorem appBtw_any (v : Value) (xs : List (Int × Int)) (base : Nat) (a b : Int) (w : World) (ho : OwnE 31 w base v xs) (hbase : base ≤ w.heap.size) (hn : xs.length ≤ 1000000)
    (a0 : 0 ≤ a) (a1 : a ≤ 1048576) (b0 : 0 ≤ b) (b1 : b ≤ 1048576) :
    Calls Try.prog 76 #[v, .int .i64 a, .int .i64 b] w fun e w' => ∃ v', e = .returned v' ∧ OwnE 31 w' base v' (xs ++ btw a b) ∧ Below base w w' := by
  obtain ⟨i0, hi, hz0, hz1, hz2⟩ := info_parts infoE
  have HO := Lib.hid ho
  clear ho
  by_cases hab : a = b
  · subst hab
    have HE : Hid (xs ++ btw a a = xs) := Lib.hid (by simp [btw])
    go_enter Try.func76, Try.ntmps76
    go_wp2
    go_ret
    exact ⟨_, rfl, by rw [HE.out]; exact HO.out, Below.refl _ _⟩
  · have HE : Hid (btw a b = [(a, b - a)]) := Lib.hid (by simp [btw, hab])
    have hne : (a == b) = false := by simpa using hab
    have H := Lib.hid (between_any a b w a0 a1 b0 b1)
    clear hab
    go_enter Try.func76, Try.ntmps76
    go_wp2_with fail
    refine H.out.mono ?_
    rintro e w1 ⟨rfl, hb1⟩
    have HO1 := Lib.hid (HO.out.below hb1)
    have hbz : base ≤ w1.heap.size := Nat.le_trans hbase hb1.size
    clear H
    go_wp2_with (at_builtin; go_must (refine wpList_appE _ rfl (.tmp 11) (.tmp 15) 34 rfl Try.underlying34 hi hz0 rfl hz1 (by omega) (HO1.out.alloc _) rfl (Exs.new w1 [(a, b - a)] _ _ 1 rfl rfl (by unfold maxLen; omega) (fun x hx => by simp at hx; subst hx; simp only; omega)) rfl (by omega) (by simp; omega) ?_); intro v2 w2 ho2 hb2 hg2; clear hg2)
    go_ret
    exact ⟨_, rfl, by rw [HE.out]; exact ho2, (hb1.mono hbase).trans (((Below.refl _ _).alloc hbz _).trans hb2)⟩

/-- One slice of extents: where it lies, its length and capacity, and what it holds. -/
structure Seg where
  A : Option Addr
  n : Nat
  c : Nat
  l : List (Int × Int)
def Seg.v (r : Seg) : Value := .slice r.A r.n r.c
def sv (rs : List Seg) : List Value := rs.map Seg.v
def cat (rs : List Seg) : List (Int × Int) := rs.flatMap Seg.l
def szs (rs : List Seg) : Nat := (rs.map Seg.n).sum
theorem sv_len {rs : List Seg} : (sv rs).length = rs.length := by simp [sv]
theorem seg_take {rs : List Seg} {k : Nat} {r : Seg} (h : rs[k]? = some r) : rs.take (k + 1) = rs.take k ++ [r] := by
  obtain ⟨hk, rfl⟩ := List.getElem?_eq_some_iff.1 h
  rw [List.take_succ_eq_append_getElem hk]
theorem cat_take {rs : List Seg} {k : Nat} {r : Seg} (h : rs[k]? = some r) : cat (rs.take (k + 1)) = cat (rs.take k) ++ r.l := by
  rw [seg_take h]
  simp [cat]
theorem szs_take {rs : List Seg} {k : Nat} {r : Seg} (h : rs[k]? = some r) : szs (rs.take (k + 1)) = szs (rs.take k) + r.n := by
  rw [seg_take h]
  simp [szs]
theorem szs_le {rs : List Seg} {k : Nat} : szs (rs.take k) ≤ szs rs := by
  have := List.take_append_drop k rs
  have h : ∀ a b : List Seg, szs (a ++ b) = szs a + szs b := by
    intro a b
    simp [szs]
  have h2 := h (rs.take k) (rs.drop k)
  rw [this] at h2
  omega
theorem cat_len {w : World} {B : Nat} : ∀ {rs : List Seg}, (∀ r ∈ rs, Exs w B r.A r.n r.c r.l) → (cat rs).length = szs rs
  | [], _ => rfl
  | r :: rs, h => by
    have h1 := cat_len (rs := rs) fun s hs => h s (List.mem_cons_of_mem _ hs)
    have h2 := (h r (List.mem_cons_self ..)).len
    simp only [cat, szs, List.flatMap_cons, List.length_append, List.map_cons, List.sum_cons] at h1 ⊢
    omega

theorem concat_any (A : Option Addr) (n c : Nat) (rs : List Seg) (w : World) (h : Row w w.heap.size A n c (sv rs)) (hr : ∀ r ∈ rs, Exs w w.heap.size r.A r.n r.c r.l) (hs : szs rs ≤ 1000000) :
    Calls Try.prog 81 #[.slice A n c] w (MadeE w (cat rs)) := by
  obtain ⟨i0, hi, hz0, hz1, hz2⟩ := info_parts infoE
  have HB := Lib.hid h
  have HR := Lib.hid hr
  have hcap := h.cap
  have hsm := h.small
  unfold maxLen at hsm
  have HL := Lib.hid (show rs.length = n by have := h.len; rw [sv_len] at this; exact this)
  clear h hr
  go_enter Try.func81, Try.ntmps81
  go_wp2
  go_loop [3, 11] (fun s i => ∃ (k z : Nat), k ≤ n ∧ z ≤ 1000000 ∧ i = .int .i64 k ∧ s = .int .i64 z ∧ Hid (z = szs (rs.take k))) (fun _ i => n - (intOf i).toNat)
  case atStart => exact ⟨0, 0, by omega, by omega, rfl, rfl, Lib.hid (by simp [szs])⟩
  case round =>
    obtain ⟨k, z, hk, hz, rfl, rfl, hh⟩ := hrel
    by_cases hlt : k < n
    · have hkl : k < rs.length := by rw [HL.out]; exact hlt
      obtain ⟨b, o, rfl, hb, hcell⟩ := HB.out.at_ hlt
      obtain ⟨r, hrk⟩ : ∃ r, rs[k]? = some r := ⟨_, List.getElem?_eq_getElem hkl⟩
      have hc : w.cell? ⟨b, o + k, none⟩ = some (.slice r.A r.n r.c) := by rw [hcell]; simp [sv, hrk, Seg.v]
      have HS := Lib.hid (szs_take hrk)
      have hz2 : z + r.n ≤ 1000000 := by
        have h1 := HS.out
        have h2 := szs_le (rs := rs) (k := k + 1)
        have h3 := hh.out
        omega
      obtain ⟨A1, n1, c1, l1⟩ := r
      simp only at hc hz2 HS
      clear hcell hrk hkl
      go_wp2
      go_round
      case rel => exact ⟨k + 1, z + n1, by omega, by omega, by go_num, by go_num, Lib.hid (by rw [HS.out, hh.out])⟩
      case measure => simp [intOf]; omega
    · obtain rfl : k = n := by omega
      have HE : Hid (z = szs rs) := Lib.hid (by have := hh.out; rwa [List.take_of_length_le (by rw [HL.out]; omega)] at this)
      have H := Lib.hid (grow_any z w hz)
      clear hh
      go_wp2_with fail
      refine H.out.mono ?_
      rintro e w1 ⟨v1, rfl, ho1, hb1⟩
      have HO1 := Lib.hid ho1
      have HB1 := Lib.hid hb1
      clear H ho1 hb1
      go_wp2
      go_loopw [6, 27] (fun v i wr => ∃ (j : Nat), j ≤ k ∧ i = .int .i64 j ∧ Hid (OwnE 31 wr w.heap.size v (cat (rs.take j)) ∧ Below w.heap.size w wr)) (fun _ i _ => k - (intOf i).toNat)
      case atStart => exact ⟨0, by omega, rfl, Lib.hid ⟨by simpa [cat] using HO1.out, HB1.out⟩⟩
      case round =>
        obtain ⟨j, hj, rfl, hh⟩ := hrel
        by_cases hlt2 : j < k
        · have hjl : j < rs.length := by rw [HL.out]; exact hlt2
          obtain ⟨b, o, rfl, hb, hcell⟩ := (HB.out.below hh.out.2).at_ hlt2
          obtain ⟨r, hrk⟩ : ∃ r, rs[j]? = some r := ⟨_, List.getElem?_eq_getElem hjl⟩
          have hc : wr.cell? ⟨b, o + j, none⟩ = some (.slice r.A r.n r.c) := by rw [hcell]; simp [sv, hrk, Seg.v]
          have HC := Lib.hid (cat_take hrk)
          have HX := Lib.hid ((HR.out r (List.mem_of_getElem? hrk)).below hh.out.2)
          have hlen : (cat (rs.take j)).length + r.n ≤ 1000000 := by
            have h1 := cat_len (rs := rs.take j) (w := w) (B := w.heap.size) fun s hs => HR.out s (List.mem_of_mem_take hs)
            have h2 := szs_take hrk
            have h3 := szs_le (rs := rs) (k := j + 1)
            have h4 := HE.out
            omega
          have hbz := hh.out.2.size
          obtain ⟨A1, n1, c1, l1⟩ := r
          simp only at hc HC HX hlen
          clear hcell hrk hjl
          go_wp2_with (at_builtin; go_must (refine wpList_appE _ rfl (.tmp 31) (.tmp 32) 34 rfl Try.underlying34 hi hz0 rfl hz1 (by omega) hh.out.1 rfl HX.out rfl (by omega) hbz ?_); intro v2 w2 ho2 hb2 hg2; clear hg2)
          refine ⟨⟨j + 1, by omega, by go_num, Lib.hid ⟨by rw [HC.out]; exact ho2, hh.out.2.trans hb2⟩⟩, by simp [intOf]; omega⟩
        · obtain rfl : j = k := by omega
          have HF : Hid (cat (rs.take j) = cat rs) := Lib.hid (by rw [List.take_of_length_le (by rw [HL.out]; omega)])
          go_wp2
          go_ret
          exact ⟨_, rfl, by rw [← HF.out]; exact hh.out.1, hh.out.2⟩
end Go.Proofs.Ytfchccgajcjbbaa
