/-
  A table (colour 1), its model (colour 2) and the handles that the law has seen (colour 0) side by side. No conditions beyond those that each lemma states.
-/
import Derived.Test.YtaoojgnkbcoggaaHwl
import Derived.Test.YtaoojgnkbcoggaaQua
namespace Go.Proofs.Ytaoojgnkbcoggaa
open Go.ChangeShapes Go.WideShapes Go.RowKit
set_option linter.unusedVariables false
set_option maxHeartbeats 4000000
set_option maxRecDepth 100000

/-- Blocks of the colour 0 are kept. -/
structure Kz (c : Nat → Nat) (w w' : World) : Prop where
  os : w'.os = w.os
  tape : w'.tape = w.tape
  output : w'.output = w.output
  size : w.heap.size ≤ w'.heap.size
  block : ∀ g, g < w.heap.size → c g = 0 → w'.heap[g]? = w.heap[g]?
section
variable {w w1 w2 w3 : World} {c c' : Nat → Nat} {k B b o : Nat} {v : Value}
theorem Kz.refl : Kz c w w := ⟨rfl, rfl, rfl, Nat.le_refl _, fun _ _ _ => rfl⟩
theorem Kz.ofKept (h : Kept c k w w1) (hk : k ≠ 0) : Kz c w w1 := ⟨h.os, h.tape, h.output, h.size, fun g hg h0 => h.block g hg (by omega)⟩
theorem Kz.ofBelow (h : Below w.heap.size w w1) : Kz c w w1 := ⟨h.os, h.tape, h.output, h.size, fun g hg _ => h.block g hg⟩
theorem Kz.trans (h : Kz c w w1) (hc : ∀ g, g < w.heap.size → c' g = c g) (h' : Kz c' w1 w2) : Kz c w w2 :=
  ⟨h'.os.trans h.os, h'.tape.trans h.tape, h'.output.trans h.output, Nat.le_trans h.size h'.size, fun g hg h0 => (h'.block g (Nat.lt_of_lt_of_le hg h.size) ((hc g hg).trans h0)).trans (h.block g hg h0)⟩
theorem Kz.below (h : Kz c w w1) (h0 : ∀ g, g < B → c g = 0) (hB : B ≤ w.heap.size) : Below B w w1 := ⟨h.os, h.tape, h.output, h.size, fun g hg => h.block g (by omega) (h0 g hg)⟩
theorem Kz.cell (h : Kz c w w1) (h0 : c b = 0) (hv : w.cell? ⟨b, o, none⟩ = some v) : w1.cell? ⟨b, o, none⟩ = some v :=
  (World.cell?_of_block (w := w) (w' := w1) (a := ⟨b, o, none⟩) (h.block b (lt_of_some hv) h0)).trans hv
/-- The handles that the law has seen. -/
structure Evr (w : World) (c : Nat → Nat) (A : Option Addr) (n cc : Nat) (l : List Int) : Prop where
  row : Kws han1 w w.heap.size A n cc l
  col : 0 < n → ∀ a, A = some a → c a.block = 0
  u64 : ∀ x ∈ l, U64 x
theorem Evr.kz {A : Option Addr} {n cc : Nat} {l : List Int} (h : Evr w c A n cc l) (hk : Kz c w w1) (hc : ∀ g, g < w.heap.size → c' g = c g) : Evr w1 c' A n cc l := by
  refine ⟨⟨h.row.len, h.row.cap, h.row.small, h.row.nil, fun hn => ?_⟩, fun hn a ha => ?_, h.u64⟩
  · obtain ⟨b, o, e, hb, hcl⟩ := h.row.cells hn
    exact ⟨b, o, e, Nat.lt_of_lt_of_le hb hk.size, fun p u hu => hk.cell (h.col hn _ e) (hcl p u hu)⟩
  · obtain ⟨b, o, e, hb, hcl⟩ := h.row.cells hn
    rw [ha] at e
    obtain rfl := Option.some.inj e
    rw [hc b hb]
    exact h.col hn _ ha
theorem Evr.go {A : Option Addr} {n cc : Nat} {l : List Int} (h : Evr w c A n cc l) (hb : Below w.heap.size w w1) (hc : ∀ g, g < w.heap.size → c' g = c g) : Evr w1 c' A n cc l := h.kz (Kz.ofBelow hb) hc
theorem Evr.nil : Evr w c none 0 0 [] := ⟨Kws.none_, fun h => by omega, fun x hx => by cases hx⟩
/-- A table and its model in step; what lies below B has the colour 0. -/
structure Tri (B N : Nat) (w : World) (c : Nat → Nat) (p m : Nat) (t : Ht) : Prop where
  tb : Htb w c 1 p t
  mb : Hmb w c 2 m t
  lo : ∀ g, g < B → c g = 0
  wf : t.Wf N
  bd : B ≤ w.heap.size
variable {N p m : Nat} {t t' : Ht}
theorem Tri.go (h : Tri B N w c p m t) (hb : Below w.heap.size w w1) : Tri B N w1 (rc c w.heap.size 0) p m t :=
  ⟨h.tb.kept (j := 0) (Kept.ofBelow hb) (by omega) (fun g hg => rc_old hg), h.mb.kept (j := 0) (Kept.ofBelow hb) (by omega) (fun g hg => rc_old hg), fun g hg => by rw [rc_old (by have := h.bd; omega)]; exact h.lo g hg, h.wf, Nat.le_trans h.bd hb.size⟩
/-- Behind a call of the one and a call of the other. -/
theorem Tri.both (h : Tri B N w c p m t) (h1 : Htb w2 (rc c w.heap.size 1) 1 p t') (k1 : Kept c 1 w w2) (h2 : Hmb w3 (rc (rc c w.heap.size 1) w2.heap.size 2) 2 m t') (k2 : Kept (rc c w.heap.size 1) 2 w2 w3) (hW : t'.Wf N) :
    Tri B N w3 (rc (rc c w.heap.size 1) w2.heap.size 2) p m t' ∧ Kz c w w3 := by
  have hz := k1.size
  have kz : Kz c w w3 := (Kz.ofKept k1 (by omega)).trans (fun g hg => rc_old hg) (Kz.ofKept k2 (by omega))
  exact ⟨⟨h1.kept k2 (by omega) (fun g hg => rc_old hg), h2, fun g hg => by rw [rc_old (by have := h.bd; omega), rc_old (by have := h.bd; omega)]; exact h.lo g hg, hW, Nat.le_trans h.bd kz.size⟩, kz⟩
theorem Tri.mid (h : Tri B N w c p m t) (k1 : Kept c 1 w w2) : Hmb w2 (rc c w.heap.size 1) 2 m t := h.mb.kept k1 (by omega) (fun g hg => rc_old hg)
theorem both_old {n n2 g : Nat} (h : g < n) (hn : n ≤ n2) : rc (rc c n 1) n2 2 g = c g := by rw [rc_old (by omega), rc_old h]
end
end Go.Proofs.Ytaoojgnkbcoggaa
