/-
  Contracts of package typecode's reader of numbers. Conditions: the bytes are bytes, at most a million.
-/
import Derived.Test.YtebbnkjjebfgeaaTcd
import Derived.Deep.QuietTactic
import Derived.BigQuiet
namespace Go.Proofs.Ytebbnkjjebfgeaa
open Go.ChangeShapes Go.WideShapes Go.RowKit
set_option linter.unusedVariables false
set_option maxHeartbeats 4000000
set_option maxRecDepth 100000

/-- A box with a reader. -/
def RdB (w : World) (r : Nat) (A : Option Addr) (n c p : Nat) : Prop := w.heap[r]? = some (.cells #[.slice A n c, .int .i64 p] 59 (0, 0))
section
variable {w w' : World} {r q n c p : Nat} {A : Option Addr}
theorem RdB.new : RdB (w.alloc (.cells #[.slice A n c, .int .i64 p] 59)) w.heap.size A n c p := heap_alloc_new w _
theorem RdB.lt (h : RdB w r A n c p) : r < w.heap.size := (Array.getElem?_eq_some_iff.1 h).1
theorem RdB.go (h : RdB w r A n c p) (hb : Below w.heap.size w w') : RdB w' r A n c p := (hb.block r h.lt).trans h
theorem RdB.cell0 (h : RdB w r A n c p) : w.cell? ⟨r, 0, none⟩ = some (.slice A n c) := cell_of_row w r 0 _ _ _ h
theorem RdB.cell1 (h : RdB w r A n c p) : w.cell? ⟨r, 1, none⟩ = some (.int .i64 p) := cell_of_row w r 1 _ _ _ h
theorem RdB.fr1 (h : RdB w r A n c p) : w.frozen? ⟨r, 1, none⟩ = false := frozen_of_row w r 1 _ _ h
theorem RdB.set (h : RdB w r A n c p) (j : Nat) : RdB (w.setCell ⟨r, 1, none⟩ (.int .i64 j)) r A n c j := heap_setCell_same w r 1 _ _ _ h
end
/-- The reader at block r reads the bytes b and stands at place p; its bytes lie below r. -/
def RS (w : World) (r : Nat) (b : List Int) (p : Nat) : Prop := ∃ A n c, RdB w r A n c p ∧ Bts w r A n c b ∧ p ≤ n ∧ n ≤ 1000000
section
variable {w w' : World} {r p : Nat} {b : List Int}
theorem RS.lt (h : RS w r b p) : r < w.heap.size := by
  obtain ⟨A, n, c, h, _⟩ := h
  exact h.lt
theorem RS.go (h : RS w r b p) (hb : Below w.heap.size w w') : RS w' r b p := by
  have hlt := h.lt
  obtain ⟨A, n, c, h, hr, hp, hn⟩ := h
  exact ⟨A, n, c, h.go hb, hr.below (hb.mono (Nat.le_of_lt hlt)), hp, hn⟩
end
def rnP (b : List Int) (p : Nat) : Nat := if rnE b p = 0 then rnA b p else p
/-- What the reader of a number says. -/
def RnE (w : World) (r : Nat) (b : List Int) (p : Nat) (e : Ending) (w' : World) : Prop := e = .returned (.tuple #[.int .i64 (smX b p), .int .i64 (rnE b p)]) ∧ RS w' r b (rnP b p) ∧ Oth r w w'
theorem readNumber_any (r p : Nat) (b : List Int) (w : World) (h : RS w r b p) (hs : Small b) :
    Calls Try.prog 40 #[.pointer (some ⟨r, 0, none⟩)] w (RnE w r b p) := by
  obtain ⟨A, n, c, h, hb, hp, hn⟩ := h
  have hcap := hb.cap
  have hsm := hb.small
  unfold maxLen at hsm
  have hl := hb.len
  obtain ⟨x0, x1, k0, k1, k2⟩ := rd_bd (hs.drop p)
  have HU0 : ∀ q : Nat, Calls Try.prog 42 #[.slice (if c = p then A else A.map (·.add p)) (n - p) (c - p)] (w.drewN q) (GotU (w.drewN q) (b.drop p)) := fun q =>
    uint_any _ _ _ _ (w.drewN q) ((hb.drop (k := p) hp).keep fun _ _ => rfl) (hs.drop p) (by omega)
  rw [List.length_drop, hl] at k1
  have HN : Hid (rnE b p = if rdE (b.drop p) = 0 then (if 65536 < rdX (b.drop p) then 4 else 0) else rdE (b.drop p)) := Lib.hid rfl
  have HX : Hid (smX b p = if rnE b p = 0 then rdX (b.drop p) else 0) := Lib.hid rfl
  have HA : Hid (rnP b p = if rnE b p = 0 then p + (rdK (b.drop p)).toNat else p) := Lib.hid rfl
  have HF0 : Hid (∀ q, RS (w.drewN q) r b p ∧ Oth r w (w.drewN q)) := Lib.hid (fun q => by
    have hbl : Below w.heap.size w (w.drewN q) := below_drewN (Below.refl _ _) q
    exact ⟨RS.go ⟨A, n, c, h, hb, hp, hn⟩ hbl, Oth.ofBelow hbl⟩)
  have HF1 : Hid (∀ q (K : Nat), p + K ≤ n → RS ((w.drewN q).setCell ⟨r, 1, none⟩ (.int .i64 ((p + K : Nat) : Int))) r b (p + K) ∧ Oth r w ((w.drewN q).setCell ⟨r, 1, none⟩ (.int .i64 ((p + K : Nat) : Int)))) := Lib.hid (fun q K hK => by
    have hbl : Below w.heap.size w (w.drewN q) := below_drewN (Below.refl _ _) q
    have hlt := h.lt
    exact ⟨⟨A, n, c, (h.go hbl).set _, (hb.below (hbl.mono (Nat.le_of_lt hlt))).below ((Below.refl _ _).setCell (p := ⟨r, 1, none⟩) (Nat.le_refl _) _), hK, hn⟩, (Oth.ofBelow hbl).trans (Oth.set 1 _)⟩)
  have c0 := h.cell0
  have c1 := h.cell1
  have fr := h.fr1
  have HRR : Hid (∀ W : World, RS W r b (rnP b p) → Oth r w W → RnE w r b p (.returned (.tuple #[.int .i64 (smX b p), .int .i64 (rnE b p)])) W) := Lib.hid (fun W h1 h2 => ⟨rfl, h1, h2⟩)
  unfold GotU at HU0
  generalize rdX (b.drop p) = x at *
  generalize rdK (b.drop p) = k at *
  generalize rdE (b.drop p) = er at *
  generalize rnE b p = en at *
  generalize smX b p = sx at *
  generalize rnP b p = rp at *
  obtain ⟨K, rfl⟩ := Int.eq_ofNat_of_zero_le k0
  have HNIL := Lib.hid hb.nil
  clear h hs hl hb
  by_cases hck : c = p
  · subst hck
    obtain rfl : n = c := by omega
    have HU : Hid (∀ q : Nat, Calls Try.prog 42 #[.slice A 0 0] (w.drewN q) fun e w' => e = .returned (.tuple #[.int .u64 x, .int .i64 (K : Int), .int .i64 er]) ∧ w' = w.drewN q) := Lib.hid (fun q => by
      have h1 := HU0 q
      rw [if_pos rfl, Nat.sub_self] at h1
      exact h1.mono fun _ _ h => ⟨h.1, h.2.symm⟩)
    clear HU0
    go_enter Try.func40, Try.ntmps40
    go_wp2
    go_quiet ((go_at_call 42; exact Calls.quiet_of_same (HU.out _)))
    by_cases hz : er = 0
    · subst hz
      rw [if_pos rfl] at HN
      by_cases hbig : 65536 < x
      · have HN4 : Hid (en = 4) := Lib.hid (by rw [HN.out, if_pos hbig])
        have HXX : Hid (sx = 0 ∧ rp = n) := Lib.hid ⟨by rw [HX.out, if_neg (by rw [HN4.out]; omega)], by rw [HA.out, if_neg (by rw [HN4.out]; omega)]⟩
        have HFIN : Hid (∀ q, RnE w r b n (.returned (.tuple #[.int .i64 0, .int .i64 4])) (w.drewN q)) := Lib.hid (fun q => by
          have := HRR.out (w.drewN q) (by rw [HXX.out.2]; exact (HF0.out q).1) (HF0.out q).2
          rwa [HXX.out.1, HN4.out] at this)
        go_wp2
        go_ret2
        exact HFIN.out _
      · have HN4 : Hid (en = 0) := Lib.hid (by rw [HN.out, if_neg hbig])
        have HXX : Hid (sx = x ∧ rp = n + K) := Lib.hid ⟨by rw [HX.out, if_pos HN4.out], by rw [HA.out, if_pos HN4.out]; simp⟩
        have HFIN : Hid (∀ q, RnE w r b n (.returned (.tuple #[.int .i64 x, .int .i64 0])) ((w.drewN q).setCell ⟨r, 1, none⟩ (.int .i64 ((n : Int) + K)))) := Lib.hid (fun q => by
          have h1 := HF1.out q K (by omega)
          rw [Int.natCast_add] at h1
          have := HRR.out _ (by rw [HXX.out.2]; exact h1.1) h1.2
          rwa [HXX.out.1, HN4.out] at this)
        go_wp2
        go_ret2
        exact HFIN.out _
    · have d1 : (er != 0) = true := by simpa using hz
      rw [if_neg hz] at HN
      have HXX : Hid (sx = 0 ∧ rp = n) := Lib.hid ⟨by rw [HX.out, if_neg (by rw [HN.out]; exact hz)], by rw [HA.out, if_neg (by rw [HN.out]; exact hz)]⟩
      have HFIN : Hid (∀ q, RnE w r b n (.returned (.tuple #[.int .i64 0, .int .i64 er])) (w.drewN q)) := Lib.hid (fun q => by
        have := HRR.out (w.drewN q) (by rw [HXX.out.2]; exact (HF0.out q).1) (HF0.out q).2
        rwa [HXX.out.1, HN.out] at this)
      go_wp2
      go_ret2
      exact HFIN.out _
  · obtain ⟨ad, rfl⟩ : ∃ ad, A = some ad := by
      cases A with
      | none => have := HNIL.out rfl; omega
      | some ad => exact ⟨ad, rfl⟩
    have HU : Hid (∀ q : Nat, Calls Try.prog 42 #[.slice (some (ad.add p)) (n - p) (c - p)] (w.drewN q) fun e w' => e = .returned (.tuple #[.int .u64 x, .int .i64 (K : Int), .int .i64 er]) ∧ w' = w.drewN q) := Lib.hid (fun q => by
      have h1 := HU0 q
      rw [if_neg hck] at h1
      exact h1.mono fun _ _ h => ⟨h.1, h.2.symm⟩)
    clear HU0
    have hpc : p < c := by omega
    go_enter Try.func40, Try.ntmps40
    go_wp2
    go_quiet ((go_at_call 42; exact Calls.quiet_of_same (HU.out _)))
    by_cases hz : er = 0
    · subst hz
      rw [if_pos rfl] at HN
      by_cases hbig : 65536 < x
      · have HN4 : Hid (en = 4) := Lib.hid (by rw [HN.out, if_pos hbig])
        have HXX : Hid (sx = 0 ∧ rp = p) := Lib.hid ⟨by rw [HX.out, if_neg (by rw [HN4.out]; omega)], by rw [HA.out, if_neg (by rw [HN4.out]; omega)]⟩
        have HFIN : Hid (∀ q, RnE w r b p (.returned (.tuple #[.int .i64 0, .int .i64 4])) (w.drewN q)) := Lib.hid (fun q => by
          have := HRR.out (w.drewN q) (by rw [HXX.out.2]; exact (HF0.out q).1) (HF0.out q).2
          rwa [HXX.out.1, HN4.out] at this)
        go_wp2
        go_ret2
        exact HFIN.out _
      · have HN4 : Hid (en = 0) := Lib.hid (by rw [HN.out, if_neg hbig])
        have HXX : Hid (sx = x ∧ rp = p + K) := Lib.hid ⟨by rw [HX.out, if_pos HN4.out], by rw [HA.out, if_pos HN4.out]; simp⟩
        have HFIN : Hid (∀ q, RnE w r b p (.returned (.tuple #[.int .i64 x, .int .i64 0])) ((w.drewN q).setCell ⟨r, 1, none⟩ (.int .i64 ((p : Int) + K)))) := Lib.hid (fun q => by
          have h1 := HF1.out q K (by omega)
          rw [Int.natCast_add] at h1
          have := HRR.out _ (by rw [HXX.out.2]; exact h1.1) h1.2
          rwa [HXX.out.1, HN4.out] at this)
        go_wp2
        go_ret2
        exact HFIN.out _
    · have d1 : (er != 0) = true := by simpa using hz
      rw [if_neg hz] at HN
      have HXX : Hid (sx = 0 ∧ rp = p) := Lib.hid ⟨by rw [HX.out, if_neg (by rw [HN.out]; exact hz)], by rw [HA.out, if_neg (by rw [HN.out]; exact hz)]⟩
      have HFIN : Hid (∀ q, RnE w r b p (.returned (.tuple #[.int .i64 0, .int .i64 er])) (w.drewN q)) := Lib.hid (fun q => by
        have := HRR.out (w.drewN q) (by rw [HXX.out.2]; exact (HF0.out q).1) (HF0.out q).2
        rwa [HXX.out.1, HN.out] at this)
      go_wp2
      go_ret2
      exact HFIN.out _
end Go.Proofs.Ytebbnkjjebfgeaa
