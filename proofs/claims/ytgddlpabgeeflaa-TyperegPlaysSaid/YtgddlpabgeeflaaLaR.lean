/-
  Contracts of the reference model's layout functions. Conditions: at most forty fields.
-/
import Derived.Test.YtgddlpabgeeflaaRows
import Derived.Test.YtgddlpabgeeflaaLay
import Derived.Test.YtgddlpabgeeflaaLater
import Derived.Test.YtgddlpabgeeflaaKow
import Derived.WalkKit
import Derived.ProofKit
import Derived.Outline
import Derived.WalkLawsBesides
import Derived.WalkSpells
import Derived.Lib.Hide
import Derived.Deep.QuietTactic
import Derived.BigQuiet
namespace Go.Proofs.Ytgddlpabgeeflaa
open Go.ChangeShapes Go.WideShapes Go.RowKit
set_option linter.unusedVariables false
set_option maxHeartbeats 8000000
set_option maxRecDepth 100000

/-- What a function says that makes nothing that counts. -/
def Says (w : World) (v : Value) (e : Ending) (w' : World) : Prop := e = .returned v ∧ Below w.heap.size w w'
/-- A box with a type. -/
def TyB (w : World) (b : Nat) (n : Int) (A : Option Addr) (m c : Nat) : Prop := w.heap[b]? = some (.cells #[.int .i64 n, .slice A m c] 35 (0, 0))
section
variable {w w' : World} {b m c : Nat} {n : Int} {A : Option Addr}
theorem TyB.new : TyB (w.alloc (.cells #[.int .i64 n, .slice A m c] 35)) w.heap.size n A m c := heap_alloc_new w _
theorem TyB.lt (h : TyB w b n A m c) : b < w.heap.size := (Array.getElem?_eq_some_iff.1 h).1
theorem TyB.go (h : TyB w b n A m c) (hb : Below w.heap.size w w') : TyB w' b n A m c := (hb.block b h.lt).trans h
theorem TyB.cell0 (h : TyB w b n A m c) : w.cell? ⟨b, 0, none⟩ = some (.int .i64 n) := cell_of_row w b 0 _ _ _ h
theorem TyB.cell1 (h : TyB w b n A m c) : w.cell? ⟨b, 1, none⟩ = some (.slice A m c) := cell_of_row w b 1 _ _ _ h
end

theorem widthR_any (k c : Int) (w : World) :
    Calls Try.prog 34 #[.agg #[.int .i64 k, .int .i64 c]] w (Says w (.tuple #[.int .i64 (wdt (k, c)), .int .i64 (aln (k, c))])) := by
  have hb0 : Below w.heap.size w (w.alloc (.cells #[.int .i64 k, .int .i64 c] 45)) := (Below.refl _ _).alloc (Nat.le_refl _) _
  have HB0 := Lib.hid hb0
  clear hb0
  by_cases h1 : k = 1
  · subst h1
    go_enter Try.func34, Try.ntmps34
    go_wp2
    go_ret2
    exact ⟨rfl, HB0.out⟩
  by_cases h2 : k = 2
  · subst h2
    go_enter Try.func34, Try.ntmps34
    go_wp2
    go_ret2
    exact ⟨rfl, HB0.out⟩
  by_cases h3 : k = 3
  · subst h3
    go_enter Try.func34, Try.ntmps34
    go_wp2
    go_ret2
    exact ⟨rfl, HB0.out⟩
  by_cases h4 : k = 4
  · subst h4
    go_enter Try.func34, Try.ntmps34
    go_wp2
    go_ret2
    exact ⟨rfl, HB0.out⟩
  by_cases h5 : k = 5
  · subst h5
    go_enter Try.func34, Try.ntmps34
    go_wp2
    go_ret2
    exact ⟨rfl, HB0.out⟩
  have HW : Hid (wdt (k, c) = c ∧ aln (k, c) = 1) := Lib.hid (by unfold wdt aln; simp [h1, h2, h3, h4, h5])
  have d1 : (k == 1) = false := by simpa using h1
  have d2 : (k == 2) = false := by simpa using h2
  have d3 : (k == 3) = false := by simpa using h3
  have d4 : (k == 4) = false := by simpa using h4
  have d5 : (k == 5) = false := by simpa using h5
  go_enter Try.func34, Try.ntmps34
  go_wp2
  go_ret2
  exact ⟨by rw [HW.out.1, HW.out.2]; rfl, HB0.out⟩
theorem upR_any (n k : Int) (w : World) (hn : 0 ≤ n ∧ n ≤ 1000000000) (hk : 1 ≤ k ∧ k ≤ 1000) :
    Calls Try.prog 40 #[.int .i64 n, .int .i64 k] w (Says w (.int .i64 (upk n k))) := by
  obtain ⟨n0, n1⟩ := hn
  obtain ⟨k0, k1⟩ := hk
  have h1 := upk_is (n := n) (k := k) (by omega)
  have HU : Hid (upk n k = (n + k - 1) / k * k) := Lib.hid rfl
  have htd : (n + k - 1).tdiv k = (n + k - 1) / k := Int.tdiv_eq_ediv_of_nonneg (by omega)
  have q0 : 0 ≤ (n + k - 1) / k := Int.ediv_nonneg (by omega) (by omega)
  have q1 : (n + k - 1) / k ≤ n + k - 1 := Int.ediv_le_self _ (by omega)
  have hz : ¬ k = 0 := by omega
  have hm0 : 0 ≤ (n + k - 1) / k * k := by rw [← HU.out]; omega
  have hm1 : (n + k - 1) / k * k < n + k := by rw [← HU.out]; omega
  generalize upk n k = u at *
  generalize hq : (n + k - 1) / k = q at *
  go_enter Try.func40, Try.ntmps40
  go_wp2
  go_ret
  exact ⟨by rw [HU.out]; rfl, Below.refl _ _⟩

theorem infoPl : (Try.prog.info? 81).map (fun i => (i.zero, i.size, i.bytes)) = some (some (.agg #[.int .i64 0, .int .i64 0, .int .i64 0]), 3, 24) := by kernel_rfl
/-- What places says: a row of places, and a size. -/
def PlsE (w : World) (ps : List (Int × Int × Int)) (n : Int) (e : Ending) (w' : World) : Prop := ∃ v, e = .returned (.tuple #[v, .int .i64 n]) ∧ OwnK int3 81 w' w.heap.size v ps ∧ Below w.heap.size w w'
theorem placesR_any (A : Option Addr) (m c : Nat) (l : List (Int × Int)) (w : World) (h : Exs w w.heap.size A m c l) (hm : m ≤ 40) (hok : ∀ f ∈ l, errF f = 0) :
    Calls Try.prog 35 #[.agg #[.int .i64 0, .slice A m c]] w (PlsE w (plc l 0) (upk (fin_ l 0) (mst l 1))) := by
  obtain ⟨i0, hi, hz0, hz1, hz2⟩ := info_parts infoPl
  have hb0 : Below w.heap.size w (w.alloc (.cells #[.int .i64 0, .slice A m c] 35)) := (Below.refl _ _).alloc (Nat.le_refl _) _
  have HB0 := Lib.hid hb0
  have HT0 := Lib.hid (TyB.new (w := w) (n := 0) (A := A) (m := m) (c := c))
  have HX0 := Lib.hid (h.go hb0)
  have hcap := h.cap
  have hsm := h.small
  have HLN := Lib.hid h.len
  unfold maxLen at hsm
  have HOK := Lib.hid hok
  have c1 := HT0.out.cell1
  clear h hb0 hok
  go_enter Try.func35, Try.ntmps35
  go_wp2_with fail
  generalize w.alloc (.cells #[.int .i64 0, .slice A m c] 35) = w1 at *
  generalize htb : w.heap.size = tb at *
  go_loopw [4, 8, 9, 10] (fun ov av mv iv wq => ∃ (j : Nat) (at_ mo : Int), j ≤ m ∧ iv = .int .i64 j ∧ av = .int .i64 at_ ∧ mv = .int .i64 mo ∧ 0 ≤ at_ ∧ at_ ≤ 65544 * j ∧ (mo = 1 ∨ mo = 2 ∨ mo = 4 ∨ mo = 8) ∧ Hid (at_ = fin_ (l.take j) 0 ∧ mo = mst (l.take j) 1 ∧ OwnK int3 81 wq w1.heap.size ov (plc (l.take j) 0) ∧ Below w1.heap.size w1 wq)) (fun _ _ _ iv _ => m - (intOf iv).toNat)
  case atStart => exact ⟨0, 0, 1, by omega, rfl, rfl, rfl, by omega, by omega, by omega, Lib.hid ⟨rfl, rfl, OwnK.nil _ _ _ _, Below.refl _ _⟩⟩
  case round =>
    obtain ⟨j, at_, mo, hj, rfl, rfl, rfl, a0, a1, hmo, hh⟩ := hrel
    have HAT := Lib.hid hh.out.1
    have HMO := Lib.hid hh.out.2.1
    have HO := Lib.hid hh.out.2.2.1
    have HB := Lib.hid hh.out.2.2.2
    have HT := Lib.hid (HT0.out.go HB.out)
    have c1 := HT.out.cell1
    clear hh
    by_cases hjm : j < m
    · have hj1 : (j : Int) < (m : Int) := by omega
      obtain ⟨b, o, u, v, hu, rfl, hb, g0, g1, _⟩ := (HX0.out.below HB.out).at_ hjm
      have HU := Lib.hid hu
      have he := HOK.out _ (List.mem_of_getElem? hu)
      obtain ⟨d0, d1⟩ := wdt_bd he
      have ha := aln_is (u, v)
      have HW := Lib.hid (fun W => widthR_any u v W)
      have HFN := Lib.hid (fin_next hu 0)
      have HMN := Lib.hid (mst_next hu 1)
      have HPN := Lib.hid (plc_next hu 0)
      clear hu hb he
      go_wp2_with fail
      refine (HW.out wr).mono ?_
      rintro e w2 ⟨rfl, hb2⟩
      have HU2 := Lib.hid (upR_any at_ (aln (u, v)) w2 ⟨by omega, by omega⟩ ⟨by omega, by omega⟩)
      have hup := upk_is (n := at_) (k := aln (u, v)) (by omega)
      rw [← HAT.out] at HFN HPN
      rw [← HMO.out] at HMN
      generalize hup' : upk at_ (aln (u, v)) = up' at *
      generalize haln : aln (u, v) = al at *
      generalize hwdt : wdt (u, v) = wd at *
      have HX2 := Lib.hid (HX0.out.below (Below.then HB.out hb2 (by have := HB.out.size; omega)))
      have HT2 := Lib.hid (HT.out.go hb2)
      have HO2 := Lib.hid (HO.out.below hb2)
      have HB2 := Lib.hid (Below.then HB.out hb2 (by have := HB.out.size; omega))
      clear hb2 HW c1 g0 g1 HO HT
      go_wp2_with fail
      refine HU2.out.mono ?_
      rintro e w3 ⟨rfl, hb3⟩
      have HT3 := Lib.hid (HT2.out.go hb3)
      have HO3 := Lib.hid (HO2.out.below hb3)
      have HB3 := Lib.hid (Below.then HB2.out hb3 (by have := HB2.out.size; omega))
      have c1 := HT3.out.cell1
      have hx3 := (HX0.out.below HB3.out).at_ hjm
      obtain ⟨b', o', u', v', hu', e', _, g0, g1, _⟩ := hx3
      cases e'
      rw [HU.out] at hu'
      cases hu'
      have hsz3 := HB3.out.size
      have hpl := plc_len (l := l.take j) (a := 0)
      rw [List.length_take] at hpl
      clear hb3 HU2 HT2 HO2 HB2 HX2
      go_wp2_with (at_builtin; go_must (refine wpList_appK _ rfl (.tmp 67) (.tmp 77) 77 rfl Try.underlying77 hi hz0 rfl hz1 (by omega) (HO3.out.alloc _) rfl (Kws.new w3 [(up', wd, u)] _ _ 1 rfl rfl (by unfold maxLen; omega)) rfl (by omega) (by simp; omega) ?_); intro v4 w4 ho4 hb4 hg4; clear hg4)
      have HO4 := Lib.hid ho4
      have HB4 := Lib.hid ((HB3.out.alloc hsz3 _).trans hb4)
      have hmx : (if mo < al then al else mo) = max mo al := by omega
      have hmx8 : max mo al = 1 ∨ max mo al = 2 ∨ max mo al = 4 ∨ max mo al = 8 := by omega
      clear ho4 hb4
      go_roundw
      case rel => exact ⟨j + 1, up' + wd, max mo al, by omega, by go_num, rfl, by rw [hmx], by omega, by omega, hmx8, Lib.hid ⟨by rw [HFN.out], by rw [HMN.out], by rw [HPN.out]; exact HO4.out, HB4.out⟩⟩
      case measure => simp [intOf]; omega
    · obtain rfl : j = m := by omega
      have hjj : ¬ (j : Int) < (j : Int) := by omega
      rw [List.take_of_length_le (by rw [HLN.out]; omega)] at HAT HMO HO
      have HU2 := Lib.hid (upR_any at_ mo wr ⟨by omega, by omega⟩ ⟨by omega, by omega⟩)
      rw [HAT.out, HMO.out] at HU2
      go_wp2_with fail
      rw [HAT.out, HMO.out]
      refine HU2.out.mono ?_
      rintro e w3 ⟨rfl, hb3⟩
      have HO3 := Lib.hid ((HO.out.below hb3).down (B := tb) (by have := HB0.out.size; have := HT0.out.lt; omega))
      have HB3 := Lib.hid (Below.trans HB0.out ((Below.then HB.out hb3 (by have := HB.out.size; omega)).mono (by have := HT0.out.lt; omega)))
      obtain ⟨A', n', c', rfl, _⟩ := HO3.out.shape
      clear hb3 HU2
      go_wp2
      go_ret2
      rw [← htb] at HO3 HB3
      exact ⟨_, rfl, HO3.out, HB3.out⟩
end Go.Proofs.Ytgddlpabgeeflaa
