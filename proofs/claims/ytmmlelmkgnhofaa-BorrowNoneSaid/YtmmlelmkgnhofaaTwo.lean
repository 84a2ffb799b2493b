/-
  A ledger (colour 1), its model (colour 2) and what the law keeps (colour 0) side by side. No conditions beyond those that each lemma states.
-/
import Derived.Test.YtmmlelmkgnhofaaBaw
namespace Go.Proofs.Ytmmlelmkgnhofaa
open Go.ChangeShapes Go.WideShapes Go.RowKit
set_option linter.unusedVariables false
set_option maxHeartbeats 4000000
set_option maxRecDepth 100000

/-- Blocks of the colour 0 are kept. -/
structure Kz (c : Nat → Nat) (w w' : World) : Prop where
  os : w'.os = w.os
  tape : w'.tape = w.tape
  output : w'.output = w.output
  size : w.heap.size ≤ w'.heap.size
  block : ∀ g, g < w.heap.size → c g = 0 → w'.heap[g]? = w.heap[g]?
section
variable {w w1 w2 w3 : World} {c c' : Nat → Nat} {k B b o : Nat} {v : Value}
theorem Kz.refl : Kz c w w := ⟨rfl, rfl, rfl, Nat.le_refl _, fun _ _ _ => rfl⟩
theorem Kz.ofKept (h : Kept c k w w1) (hk : k ≠ 0) : Kz c w w1 := ⟨h.os, h.tape, h.output, h.size, fun g hg h0 => h.block g hg (by omega)⟩
theorem Kz.ofBelow (h : Below w.heap.size w w1) : Kz c w w1 := ⟨h.os, h.tape, h.output, h.size, fun g hg _ => h.block g hg⟩
theorem Kz.trans (h : Kz c w w1) (hc : ∀ g, g < w.heap.size → c' g = c g) (h' : Kz c' w1 w2) : Kz c w w2 :=
  ⟨h'.os.trans h.os, h'.tape.trans h.tape, h'.output.trans h.output, Nat.le_trans h.size h'.size, fun g hg h0 => (h'.block g (Nat.lt_of_lt_of_le hg h.size) ((hc g hg).trans h0)).trans (h.block g hg h0)⟩
theorem Kz.below (h : Kz c w w1) (h0 : ∀ g, g < B → c g = 0) (hB : B ≤ w.heap.size) : Below B w w1 := ⟨h.os, h.tape, h.output, h.size, fun g hg => h.block g (by omega) (h0 g hg)⟩
theorem Kz.cell (h : Kz c w w1) (h0 : c b = 0) (hv : w.cell? ⟨b, o, none⟩ = some v) : w1.cell? ⟨b, o, none⟩ = some v :=
  (World.cell?_of_block (w := w) (w' := w1) (a := ⟨b, o, none⟩) (h.block b (lt_of_some hv) h0)).trans hv
/-- A ledger and its model in step; what lies below B has the colour 0. -/
structure Two (B N : Nat) (w : World) (c : Nat → Nat) (p m : Nat) (L : List Bo) : Prop where
  lb : Led w c 1 p L
  mb : Mlb w c 2 m L
  lo : ∀ g, g < B → c g = 0
  wl : Wl N L
  bd : B ≤ w.heap.size
variable {N M p m : Nat} {L L' : List Bo} {l : List Bo}
theorem Two.mono (h : Two B N w c p m L) (hN : N ≤ M) : Two B M w c p m L := ⟨h.lb, h.mb, h.lo, h.wl.mono hN, h.bd⟩
theorem Two.go (h : Two B N w c p m L) (hb : Below w.heap.size w w1) : Two B N w1 (rc c w.heap.size 0) p m L :=
  ⟨h.lb.kept (j := 0) (Kept.ofBelow hb) (by omega) (fun g hg => rc_old hg), h.mb.kept (j := 0) (Kept.ofBelow hb) (by omega) (fun g hg => rc_old hg), fun g hg => by rw [rc_old (by have := h.bd; omega)]; exact h.lo g hg, h.wl, Nat.le_trans h.bd hb.size⟩
/-- Behind a call of the one and a call of the other. -/
theorem Two.both (h : Two B N w c p m L) (h1 : Led w2 (rc c w.heap.size 1) 1 p L') (k1 : Kept c 1 w w2) (h2 : Mlb w3 (rc (rc c w.heap.size 1) w2.heap.size 2) 2 m L') (k2 : Kept (rc c w.heap.size 1) 2 w2 w3) (hW : Wl M L') :
    Two B M w3 (rc (rc c w.heap.size 1) w2.heap.size 2) p m L' ∧ Kz c w w3 := by
  have hz := k1.size
  have kz : Kz c w w3 := (Kz.ofKept k1 (by omega)).trans (fun g hg => rc_old hg) (Kz.ofKept k2 (by omega))
  exact ⟨⟨h1.kept k2 (by omega) (fun g hg => rc_old hg), h2, fun g hg => by rw [rc_old (by have := h.bd; omega), rc_old (by have := h.bd; omega)]; exact h.lo g hg, hW, Nat.le_trans h.bd kz.size⟩, kz⟩
theorem Two.mid (h : Two B N w c p m L) (k1 : Kept c 1 w w2) : Mlb w2 (rc c w.heap.size 1) 2 m L := h.mb.kept k1 (by omega) (fun g hg => rc_old hg)
theorem both_old {n n2 g : Nat} (h : g < n) (hn : n ≤ n2) : rc (rc c n 1) n2 2 g = c g := by rw [rc_old (by omega), rc_old h]
/-- A row that a call of the first made stands behind a call of the second. -/
theorem row_on {t : TypeId} (h : OwnK bo4 t w2 w.heap.size v l) (hk : Kept (rc c w.heap.size 1) 2 w2 w3) : OwnK bo4 t w3 w.heap.size v l :=
  h.keptC hk (fun g hg => by rw [rc_new (h.ge hg).1]; omega)
theorem Two.len (h : Two B N w c p m L) : L.length ≤ N := h.wl.len
end
/-- What a step leaves of the list. -/
def stpL (x0 x1 x2 x3 : Int) (L : List Bo) : List Bo :=
  if x0 % 12 = 0 then endO (x1 % 4) L else if x0 % 12 = 1 then endH (x2 % 4) L else if x0 % 12 ≤ 5 then relL (x1 % 4) (x2 % 4) L
  else lendL (x1 % 4) (x2 % 4) (if x3 % 4 = 0 then x3 / 4 % 4 else 1) L
theorem ri_4 (x : Int) : Ri (x % 4) := by
  have h1 := Int.emod_nonneg x (show (4 : Int) ≠ 0 by omega)
  have h2 := Int.emod_lt_of_pos x (show (0 : Int) < 4 by omega)
  generalize x % 4 = y at *
  exact WalkArith.wf_i64 (by omega)
theorem stp_wl {N : Nat} {x0 x1 x2 x3 : Int} {L : List Bo} (h : Wl N L) : Wl (N + 1) (stpL x0 x1 x2 x3 L) := by
  unfold stpL
  split
  · exact h.endO.mono (Nat.le_succ _)
  · split
    · exact h.endH.mono (Nat.le_succ _)
    · split
      · exact h.rel.mono (Nat.le_succ _)
      · exact h.lend (ri_4 _)
/-- What a step of the law does. -/
def StE (B N : Nat) (w : World) (c : Nat → Nat) (p m : Nat) (L' : List Bo) (e : Ending) (w' : World) : Prop :=
  e = .returned (.bool true) ∧ ∃ c', Two B (N + 1) w' c' p m L' ∧ Kz c w w' ∧ ∀ g, g < w.heap.size → c' g = c g
def Bx4 (w : World) (b : Nat) (x0 x1 x2 x3 : Int) : Prop := w.heap[b]? = some (.cells #[.int .u8 x0, .int .u8 x1, .int .u8 x2, .int .u8 x3] 30 (0, 0))
theorem Bx4.cells {w : World} {b : Nat} {x0 x1 x2 x3 : Int} (h : Bx4 w b x0 x1 x2 x3) : w.cell? ⟨b, 0, none⟩ = some (.int .u8 x0) ∧ w.cell? ⟨b, 1, none⟩ = some (.int .u8 x1) ∧ w.cell? ⟨b, 2, none⟩ = some (.int .u8 x2) ∧ w.cell? ⟨b, 3, none⟩ = some (.int .u8 x3) :=
  ⟨cell_of_row w b 0 _ _ _ h, cell_of_row w b 1 _ _ _ h, cell_of_row w b 2 _ _ _ h, cell_of_row w b 3 _ _ _ h⟩
end Go.Proofs.Ytmmlelmkgnhofaa
