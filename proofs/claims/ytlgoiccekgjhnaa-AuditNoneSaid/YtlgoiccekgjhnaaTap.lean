/-
  Contracts of the tape from which the laws' makers read numbers: a new tape, its next number, and a field. Conditions: at most a million numbers read, a divisor of at most 65536.
-/
import Derived.Test.YtlgoiccekgjhnaaLaR
namespace Go.Proofs.Ytlgoiccekgjhnaa
open Go.ChangeShapes Go.WideShapes Go.RowKit
set_option linter.unusedVariables false
set_option maxHeartbeats 4000000
set_option maxRecDepth 100000

/-- The numbers of a tape; behind its end there are zeros. -/
def num (L : List Int) (i : Nat) : Int := L.getD i 0
theorem num_bd {L : List Int} (h : Fit .u16 L) (i : Nat) : 0 ≤ num L i ∧ num L i ≤ 65535 := u16_bd (h.at_ (by decide) i)
theorem info16 : (Try.prog.info? 28).map (fun i => (i.zero, i.size, i.bytes)) = some (some (.int .u16 0), 1, 2) := by kernel_rfl

/-- Only block b has changed, of what was there. -/
structure Oth (b : Nat) (w w' : World) : Prop where
  os : w'.os = w.os
  tape : w'.tape = w.tape
  output : w'.output = w.output
  size : w.heap.size ≤ w'.heap.size
  block : ∀ k, k < w.heap.size → k ≠ b → w'.heap[k]? = w.heap[k]?
section
variable {b : Nat} {w w' w'' : World}
theorem Oth.refl : Oth b w w := ⟨rfl, rfl, rfl, Nat.le_refl _, fun _ _ _ => rfl⟩
theorem Oth.trans (h : Oth b w w') (h' : Oth b w' w'') : Oth b w w'' :=
  ⟨h'.os.trans h.os, h'.tape.trans h.tape, h'.output.trans h.output, Nat.le_trans h.size h'.size, fun k hk hne => (h'.block k (Nat.lt_of_lt_of_le hk h.size) hne).trans (h.block k hk hne)⟩
theorem Oth.ofBelow (h : Below w.heap.size w w') : Oth b w w' := ⟨h.os, h.tape, h.output, h.size, fun k hk _ => h.block k hk⟩
theorem Oth.below {B : Nat} (h : Oth b w w') (hB : B ≤ b) (hw : B ≤ w.heap.size) : Below B w w' := ⟨h.os, h.tape, h.output, h.size, fun k hk => h.block k (by omega) (by omega)⟩
theorem Oth.set (o : Nat) (u : Value) : Oth b w (w.setCell ⟨b, o, none⟩ u) :=
  ⟨rfl, rfl, rfl, by simp [World.setCell], fun k _ hne => Below.heap_setCell w ⟨b, o, none⟩ u k hne⟩
end
/-- A block that holds a tape and may be written. -/
def Tap (w : World) (b : Nat) (A : Option Addr) (m c i : Nat) : Prop := w.heap[b]? = some (.cells #[.slice A m c, .int .i64 i] 80 (0, 0))
section
variable {w w' : World} {b B m c i : Nat} {A : Option Addr}
theorem Tap.lt (h : Tap w b A m c i) : b < w.heap.size := (Array.getElem?_eq_some_iff.1 h).1
theorem Tap.go (h : Tap w b A m c i) (hb : Below w.heap.size w w') : Tap w' b A m c i := (hb.block b h.lt).trans h
theorem Tap.cell0 (h : Tap w b A m c i) : w.cell? ⟨b, 0, none⟩ = some (.slice A m c) := cell_of_row w b 0 _ _ _ h
theorem Tap.cell1 (h : Tap w b A m c i) : w.cell? ⟨b, 1, none⟩ = some (.int .i64 i) := cell_of_row w b 1 _ _ _ h
theorem Tap.fr1 (h : Tap w b A m c i) : w.frozen? ⟨b, 1, none⟩ = false := frozen_of_row w b 1 _ _ h
theorem Tap.set (h : Tap w b A m c i) (j : Nat) : Tap (w.setCell ⟨b, 1, none⟩ (.int .i64 j)) b A m c j := heap_setCell_same w b 1 _ _ _ h
end
/-- The tape at block b holds the numbers L and stands at place i; its row lies below b. -/
def TS (w : World) (b : Nat) (L : List Int) (i : Nat) : Prop := ∃ A m c, Tap w b A m c i ∧ Row w b A m c (iv .u16 L)
section
variable {w w' : World} {b i : Nat} {L : List Int}
theorem TS.lt (h : TS w b L i) : b < w.heap.size := by
  obtain ⟨A, m, c, h, _⟩ := h
  exact h.lt
theorem TS.go (h : TS w b L i) (hb : Below w.heap.size w w') : TS w' b L i := by
  have hlt := h.lt
  obtain ⟨A, m, c, h, hr⟩ := h
  exact ⟨A, m, c, h.go hb, hr.below (hb.mono (Nat.le_of_lt hlt))⟩
end
/-- What the next number of a tape says. -/
def NxE (w : World) (b : Nat) (L : List Int) (i : Nat) (v : Value) (e : Ending) (w' : World) : Prop := e = .returned v ∧ TS w' b L i ∧ Oth b w w'
theorem next_any (b i k : Nat) (L : List Int) (w : World) (h : TS w b L i) (hf : Fit .u16 L) (hi : i ≤ 1000000) (hk : 0 < k) (hk2 : k ≤ 65536) :
    Calls Try.prog 34 #[.pointer (some ⟨b, 0, none⟩), .int .i64 k] w (NxE w b L (i + 1) (.int .i64 (num L i % k))) := by
  obtain ⟨A, m, c, h, hr⟩ := h
  have HFIN : Hid (∀ q, TS ((w.setCell ⟨b, 1, none⟩ (.int .i64 ((i + 1 : Nat) : Int))).drewN q) b L (i + 1) ∧ Oth b w ((w.setCell ⟨b, 1, none⟩ (.int .i64 ((i + 1 : Nat) : Int))).drewN q)) := Lib.hid (fun q => by
    have hb : Below b w ((w.setCell ⟨b, 1, none⟩ (.int .i64 ((i + 1 : Nat) : Int))).drewN q) := below_drewN ((Below.refl _ _).setCell (p := ⟨b, 1, none⟩) (Nat.le_refl _) _) q
    exact ⟨⟨A, m, c, (h.set (i + 1)).go (below_drewN (Below.refl _ _) q), hr.below hb⟩, (Oth.set 1 _).trans (Oth.ofBelow (below_drewN (Below.refl _ _) q))⟩)
  have c0 := h.cell0
  have c1 := h.cell1
  have hsm := hr.small
  have hcap := hr.cap
  unfold maxLen at hsm
  have HT := Lib.hid h
  obtain ⟨n0, n1⟩ := num_bd hf i
  have hk0 : (0 : Int) < (k : Int) := by omega
  have hk3 : (k : Int) ≤ 65536 := by omega
  by_cases hlt : i < m
  · obtain ⟨b', o', rfl, hb, hc⟩ := hr.int hlt
    have hc' : w.cell? ⟨b', o' + i, none⟩ = some (.int .u16 (num L i)) := hc
    generalize num L i = x at *
    have hi1 : (i : Int) < (m : Int) := by omega
    clear hc h hr hf
    go_enter Try.func34, Try.ntmps34
    go_wp2
    go_quiet (fail)
    have c1' : (w.drewN nq).cell? ⟨b, 1, none⟩ = some (.int .i64 i) := c1
    have c0' : (w.drewN nq).cell? ⟨b, 0, none⟩ = some (.slice (some ⟨b', o', none⟩) m c) := c0
    have hc2 : (w.drewN nq).cell? ⟨b', o' + i, none⟩ = some (.int .u16 x) := hc'
    go_wp2
    go_quiet (fail)
    rename_i nq2 nq1
    have fr : w.frozen? ⟨b, 1, none⟩ = false := HT.out.fr1
    go_wp2
    go_ret
    exact ⟨rfl, HFIN.out (nq1 + nq)⟩
  · have hz : num L i = 0 := by
      have := hr.len
      rw [iv_len] at this
      simp [num, List.getD, List.getElem?_eq_none (by omega : L.length ≤ i)]
    have HZ : Hid (num L i % (k : Int) = 0) := Lib.hid (by rw [hz]; simp)
    have hi1 : ¬ (i : Int) < (m : Int) := by omega
    clear h hr hf hz n0 n1
    go_enter Try.func34, Try.ntmps34
    go_wp2
    go_quiet (fail)
    have c1' : (w.drewN nq).cell? ⟨b, 1, none⟩ = some (.int .i64 i) := c1
    have fr : w.frozen? ⟨b, 1, none⟩ = false := HT.out.fr1
    go_wp2
    go_ret
    rw [HZ.out]
    exact ⟨rfl, HFIN.out nq⟩
/-- What a new tape says. -/
def OfE (w : World) (L : List Int) (e : Ending) (w' : World) : Prop := ∃ b, e = .returned (.pointer (some ⟨b, 0, none⟩)) ∧ TS w' b L 0 ∧ w.heap.size ≤ b ∧ Below w.heap.size w w'
theorem of_any (A : Option Addr) (n c : Nat) (L : List Int) (k : Nat) (w : World) (h : Row w w.heap.size A n c (iv .u16 L)) (hk : k ≤ 1000000) :
    Calls Try.prog 13 #[.slice A n c, .int .i64 k] w (OfE w (L.take k)) := by
  obtain ⟨i0, hi, hz0, hz1, hz2⟩ := info_parts info16
  have hsm := h.small
  have hcap := h.cap
  unfold maxLen at hsm
  have HR := Lib.hid h
  have HL := Lib.hid (show L.length = n by have := h.len; rw [iv_len] at this; exact this)
  clear h
  have HO : Hid (Own 28 (w.alloc (.cells #[] 28)) w.heap.size (.slice (some ⟨w.heap.size, 0, none⟩) 0 0) []) := Lib.hid (World.ownsRow_made w #[] 0 (Nat.le_refl _) (Nat.zero_le _) rfl)
  by_cases hlt : k < n
  · have hlt' : (k : Int) < (n : Int) := by omega
    have HT : Hid (Row w w.heap.size A k c (iv .u16 (L.take k))) := Lib.hid (by have := HR.out.take (k := k) (by omega); rwa [iv_take] at this)
    go_enter Try.func13, Try.ntmps13
    go_wp2_with (at_builtin; go_must (refine wpList_app _ rfl (.tmp 12) (.tmp 13) 22 rfl Try.underlying22 hi hz0 rfl hz1 (by omega) HO.out rfl (HT.out.alloc _) rfl iv_one (by simp <;> omega) (by simp) ?_); intro v2 w2 ho2 hb2; obtain ⟨A2, n2, c2, rfl, hr2⟩ := ho2.shape)
    have HR2 := Lib.hid hr2
    have HB2 := Lib.hid (((Below.refl w.heap.size w).alloc (Nat.le_refl _) (.cells #[] 28)).trans hb2)
    clear ho2 hr2 hb2
    go_ret
    refine ⟨w2.heap.size, rfl, ⟨A2, n2, c2, heap_alloc_new w2 _, ?_⟩, HB2.out.size, HB2.out.alloc HB2.out.size _⟩
    have := HR2.out.alloc (.cells #[.slice A2 n2 c2, .int .i64 0] 80)
    simpa using this
  · have hlt' : ¬ (k : Int) < (n : Int) := by omega
    have HT : Hid (Row w w.heap.size A n c (iv .u16 (L.take k))) := Lib.hid (by rw [List.take_of_length_le (by rw [HL.out]; omega)]; exact HR.out)
    go_enter Try.func13, Try.ntmps13
    go_wp2_with (at_builtin; go_must (refine wpList_app _ rfl (.tmp 12) (.tmp 13) 22 rfl Try.underlying22 hi hz0 rfl hz1 (by omega) HO.out rfl (HT.out.alloc _) rfl iv_one (by simp <;> omega) (by simp) ?_); intro v2 w2 ho2 hb2; obtain ⟨A2, n2, c2, rfl, hr2⟩ := ho2.shape)
    have HR2 := Lib.hid hr2
    have HB2 := Lib.hid (((Below.refl w.heap.size w).alloc (Nat.le_refl _) (.cells #[] 28)).trans hb2)
    clear ho2 hr2 hb2
    go_ret
    refine ⟨w2.heap.size, rfl, ⟨A2, n2, c2, heap_alloc_new w2 _, ?_⟩, HB2.out.size, HB2.out.alloc HB2.out.size _⟩
    have := HR2.out.alloc (.cells #[.slice A2 n2 c2, .int .i64 0] 80)
    simpa using this
end Go.Proofs.Ytlgoiccekgjhnaa
