/-
  A meter (colour 1), its model (colour 2) and what is kept (colour 0) side by side: every call of either as a contract over both. Conditions: limits and numbers are of 64 bits; fewer than a hundred thousand changes so far.
-/
import Derived.Test.YtfhpdjlppblkcaaQra
namespace Go.Proofs.Ytfhpdjlppblkcaa
open Go.ChangeShapes Go.WideShapes Go.RowKit
set_option linter.unusedVariables false
set_option maxHeartbeats 4000000
set_option maxRecDepth 100000

/-- Blocks of the colour 0 are kept. -/
structure Kz (c : Nat → Nat) (w w' : World) : Prop where
  os : w'.os = w.os
  tape : w'.tape = w.tape
  output : w'.output = w.output
  size : w.heap.size ≤ w'.heap.size
  block : ∀ g, g < w.heap.size → c g = 0 → w'.heap[g]? = w.heap[g]?
section
variable {w w0 w1 w2 w3 : World} {c c' : Nat → Nat} {k B b o : Nat} {v : Value}
theorem Kz.refl : Kz c w w := ⟨rfl, rfl, rfl, Nat.le_refl _, fun _ _ _ => rfl⟩
theorem Kz.ofKept (h : Kept c k w w1) (hk : k ≠ 0) : Kz c w w1 := ⟨h.os, h.tape, h.output, h.size, fun g hg h0 => h.block g hg (by omega)⟩
theorem Kz.ofBelow (h : Below w.heap.size w w1) : Kz c w w1 := ⟨h.os, h.tape, h.output, h.size, fun g hg _ => h.block g hg⟩
theorem Kz.trans (h : Kz c w w1) (hc : ∀ g, g < w.heap.size → c' g = c g) (h' : Kz c' w1 w2) : Kz c w w2 :=
  ⟨h'.os.trans h.os, h'.tape.trans h.tape, h'.output.trans h.output, Nat.le_trans h.size h'.size, fun g hg h0 => (h'.block g (Nat.lt_of_lt_of_le hg h.size) ((hc g hg).trans h0)).trans (h.block g hg h0)⟩
theorem Kz.below (h : Kz c w w1) (h0 : ∀ g, g < B → c g = 0) (hB : B ≤ w.heap.size) : Below B w w1 := ⟨h.os, h.tape, h.output, h.size, fun g hg => h.block g (by omega) (h0 g hg)⟩
theorem Kz.heap (h : Kz c w w1) (h0 : c b = 0) {x : Obj} (hv : w.heap[b]? = some x) : w1.heap[b]? = some x := (h.block b (Array.getElem?_eq_some_iff.1 hv).1 h0).trans hv
end
/-- The landed meter has f, its model has g; what has the colour 0 at w0 is as it was there. -/
def Ts (w0 : World) (c0 : Nat → Nat) (N p m : Nat) (l : Q3) (f g : Int → Q3) (w : World) : Prop :=
  ∃ c, (∀ h, h < w0.heap.size → c h = c0 h) ∧ Kz c0 w0 w ∧ Mtr w c 1 N p l f ∧ (∃ S, Mmb w c 2 m l S ∧ (∀ z, getS z S = g z) ∧ S.length ≤ N) ∧ Gd l f ∧ Gd l g
section
variable {w w0 w1 w2 : World} {c0 c : Nat → Nat} {N M p m : Nat} {l : Q3} {f g f' g' : Int → Q3} {z : Int} {q : Q3}
theorem Ts.kz (H : Ts w0 c0 N p m l f g w) : Kz c0 w0 w := by
  obtain ⟨c, _, h, _⟩ := H
  exact h
theorem Ts.mono (H : Ts w0 c0 N p m l f g w) (h : N ≤ M) : Ts w0 c0 M p m l f g w := by
  obtain ⟨c, h1, h2, h3, ⟨S, h4, h5, h6⟩, h7⟩ := H
  exact ⟨c, h1, h2, h3.mono h, ⟨S, h4, h5, Nat.le_trans h6 h⟩, h7⟩
theorem Ts.go (H : Ts w0 c0 N p m l f g w) (hb : Below w.heap.size w w1) : Ts w0 c0 N p m l f g w1 := by
  obtain ⟨c, h1, h2, h3, ⟨S, h4, h5, h6⟩, h7⟩ := H
  exact ⟨c, h1, h2.trans h1 (Kz.ofBelow hb), h3.go hb, ⟨S, h4.go hb, h5, h6⟩, h7⟩
/-- A new start: what was made since has the colour 0. -/
theorem Ts.base (H : Ts w0 c0 N p m l f g w) (hb : Below w.heap.size w w1) : ∃ c1, Ts w1 c1 N p m l f g w1 ∧ (∀ h, w.heap.size ≤ h → c1 h = 0) ∧ ∀ {M : Nat} {f' g' : Int → Q3} {w2 : World}, Ts w1 c1 M p m l f' g' w2 → Ts w0 c0 M p m l f' g' w2 := by
  obtain ⟨c, h1, h2, h3, ⟨S, h4, h5, h6⟩, h7⟩ := H
  have hz := h2.size
  refine ⟨rc c w.heap.size 0, ⟨_, fun _ _ => rfl, Kz.refl, h3.kept (j := 0) (Kept.ofBelow hb) (by omega) (fun g hg => rc_old hg), ⟨S, h4.kept (j := 0) (Kept.ofBelow hb) (by omega) (fun g hg => rc_old hg), h5, h6⟩, h7⟩, fun h hh => rc_new hh, ?_⟩
  rintro M f' g' w2 ⟨c', k1, k2, k3, k4, k5⟩
  refine ⟨c', fun h hh => ?_, (h2.trans h1 (Kz.ofBelow hb)).trans (fun h hh => ?_) k2, k3, k4, k5⟩
  · rw [k1 h (Nat.lt_of_lt_of_le hh (Nat.le_trans hz hb.size)), rc_old (by omega)]
    exact h1 h hh
  · rw [rc_old (by omega)]
    exact h1 h hh
/-- Behind a call that writes the landed meter; and its model. -/
theorem Ts.left {r : Value} {e : Ending} (H : ∃ c, (∀ h, h < w0.heap.size → c h = c0 h) ∧ Kz c0 w0 w ∧ LtE w c 1 M p l r f' e w1 ∧ (∃ S, Mmb w c 2 m l S ∧ (∀ z, getS z S = g z) ∧ S.length ≤ M) ∧ Gd l f' ∧ Gd l g) : e = .returned r ∧ Ts w0 c0 M p m l f' g w1 := by
  obtain ⟨c, h1, h2, ⟨e1, e2, e3⟩, ⟨S, h4, h5, h6⟩, h7⟩ := H
  have hz := h2.size
  exact ⟨e1, _, fun h hh => (rc_old (by omega)).trans (h1 h hh), h2.trans h1 (Kz.ofKept e3 (by omega)), e2, ⟨S, h4.kept e3 (by omega) (fun g hg => rc_old hg), h5, h6⟩, h7⟩
theorem Ts.right {r : Value} {e : Ending} (H : ∃ c, (∀ h, h < w0.heap.size → c h = c0 h) ∧ Kz c0 w0 w ∧ Mtr w c 1 M p l f ∧ (∃ S, MtE w c 2 m l r S e w1 ∧ (∀ z, getS z S = g' z) ∧ S.length ≤ M) ∧ Gd l f ∧ Gd l g') : e = .returned r ∧ Ts w0 c0 M p m l f g' w1 := by
  obtain ⟨c, h1, h2, h3, ⟨S, ⟨e1, e2, e3⟩, h5, h6⟩, h7⟩ := H
  have hz := h2.size
  exact ⟨e1, _, fun h hh => (rc_old (by omega)).trans (h1 h hh), h2.trans h1 (Kz.ofKept e3 (by omega)), h3.kept e3 (by omega) (fun g hg => rc_old hg), ⟨S, e2, h5, h6⟩, h7⟩
theorem Ts.getL (H : Ts w0 c0 N p m l f g w) (hz : Ri z) : Calls Try.prog 10 #[.pointer (some ⟨p, 0, none⟩), .int .i64 z] w fun e w' => e = .returned (f z).val ∧ Ts w0 c0 N p m l f g w' := by
  have H' := H
  obtain ⟨c, _, _, h3, _⟩ := H'
  exact (getQ_any h3 hz).mono fun e w' ⟨he, hb⟩ => ⟨he, H.go hb⟩
theorem Ts.getR (H : Ts w0 c0 N p m l f g w) (z : Int) : Calls Try.prog 11 #[.pointer (some ⟨m, 0, none⟩), .int .i64 z] w fun e w' => e = .returned (g z).val ∧ Ts w0 c0 N p m l f g w' := by
  have H' := H
  obtain ⟨c, _, _, _, ⟨S, h4, h5, _⟩, _⟩ := H'
  have := getR_any h4.r z
  rw [h5] at this
  exact this.mono fun e w' ⟨he, hb⟩ => ⟨he, H.go hb⟩
theorem Ts.fitsL (H : Ts w0 c0 N p m l f g w) (hl : l.In) (hz : Ri z) (q : Q3) : Calls Try.prog 13 #[.pointer (some ⟨p, 0, none⟩), .int .i64 z, q.val] w fun e w' => e = .returned (.int .i64 (fitE l (f z) q)) ∧ Ts w0 c0 N p m l f g w' := by
  have H' := H
  obtain ⟨c, _, _, h3, _, h7, _⟩ := H'
  exact (fits_any h3 hz h7 hl q).mono fun e w' ⟨he, hb⟩ => ⟨he, H.go hb⟩
theorem Ts.fitsR (H : Ts w0 c0 N p m l f g w) (hl : l.In) (hi : q.In) (z : Int) : Calls Try.prog 14 #[.pointer (some ⟨m, 0, none⟩), .int .i64 z, q.val] w fun e w' => e = .returned (.int .i64 (fitE l (g z) q)) ∧ Ts w0 c0 N p m l f g w' := by
  have H' := H
  obtain ⟨c, _, _, _, ⟨S, h4, h5, _⟩, _, h8⟩ := H'
  have := fitsR_any h4.r z (by rw [h5]; exact h8 z) hl q hi
  rw [h5] at this
  exact this.mono fun e w' ⟨he, hb⟩ => ⟨he, H.go hb⟩
theorem Ts.addL (H : Ts w0 c0 N p m l f g w) (hl : l.In) (hz : Ri z) (hN : N < 100000) (q : Q3) : Calls Try.prog 15 #[.pointer (some ⟨p, 0, none⟩), .int .i64 z, q.val] w fun e w' => e = .returned (.int .i64 (fitE l (f z) q)) ∧ Ts w0 c0 (N + 1) p m l (addF l z q f) g w' := by
  obtain ⟨c, h1, h2, h3, ⟨S, h4, h5, h6⟩, h7, h8⟩ := H
  exact (add_any h3 hz h7 hl hN q).mono fun e w' he => Ts.left ⟨c, h1, h2, he, ⟨S, h4, h5, by omega⟩, h7.add, h8⟩
theorem Ts.subL (H : Ts w0 c0 N p m l f g w) (hl : l.In) (hz : Ri z) (hN : N < 100000) (hi : q.In) : Calls Try.prog 17 #[.pointer (some ⟨p, 0, none⟩), .int .i64 z, q.val] w fun e w' => e = .returned (.int .i64 (subE (f z) q)) ∧ Ts w0 c0 (N + 1) p m l (subF z q f) g w' := by
  obtain ⟨c, h1, h2, h3, ⟨S, h4, h5, h6⟩, h7, h8⟩ := H
  exact (sub_any h3 hz h7 hl hN q hi).mono fun e w' he => Ts.left ⟨c, h1, h2, he, ⟨S, h4, h5, by omega⟩, h7.sub, h8⟩
theorem Ts.resetL (H : Ts w0 c0 N p m l f g w) (hz : Ri z) : Calls Try.prog 19 #[.pointer (some ⟨p, 0, none⟩), .int .i64 z] w fun e w' => e = .returned (.tuple #[]) ∧ Ts w0 c0 N p m l (resF z f) g w' := by
  obtain ⟨c, h1, h2, h3, ⟨S, h4, h5, h6⟩, h7, h8⟩ := H
  exact (reset_any h3 hz).mono fun e w' he => Ts.left ⟨c, h1, h2, he, ⟨S, h4, h5, by omega⟩, h7.res, h8⟩
theorem fun_of {S : List Sh} (h : ∀ z, getS z S = g z) : (fun p => getS p S) = g := funext h
theorem Ts.addR (H : Ts w0 c0 N p m l f g w) (hl : l.In) (hi : q.In) (hN : N < 100000) (z : Int) : Calls Try.prog 16 #[.pointer (some ⟨m, 0, none⟩), .int .i64 z, q.val] w fun e w' => e = .returned (.int .i64 (fitE l (g z) q)) ∧ Ts w0 c0 (N + 1) p m l f (addF l z q g) w' := by
  obtain ⟨c, h1, h2, h3, ⟨S, h4, h5, h6⟩, h7, h8⟩ := H
  have := addR_any h4 (by omega) z (by rw [h5]; exact h8 z) hl q hi
  rw [h5] at this
  refine this.mono fun e w' he => Ts.right ⟨c, h1, h2, h3.mono (Nat.le_succ _), ⟨_, he, fun y => ?_, Nat.le_trans add_len (by omega)⟩, h7, h8.add⟩
  rw [get_add, fun_of h5]
theorem Ts.subR (H : Ts w0 c0 N p m l f g w) (hl : l.In) (hi : q.In) (hN : N < 100000) (z : Int) : Calls Try.prog 18 #[.pointer (some ⟨m, 0, none⟩), .int .i64 z, q.val] w fun e w' => e = .returned (.int .i64 (subE (g z) q)) ∧ Ts w0 c0 (N + 1) p m l f (subF z q g) w' := by
  obtain ⟨c, h1, h2, h3, ⟨S, h4, h5, h6⟩, h7, h8⟩ := H
  have := subR_any h4 (by omega) z (by rw [h5]; exact h8 z) hl q hi
  rw [h5] at this
  refine this.mono fun e w' he => Ts.right ⟨c, h1, h2, h3.mono (Nat.le_succ _), ⟨_, he, fun y => ?_, Nat.le_trans sub_len (by omega)⟩, h7, h8.sub⟩
  rw [get_sub, fun_of h5]
theorem Ts.resetR (H : Ts w0 c0 N p m l f g w) (hN : N < 100000) (z : Int) : Calls Try.prog 20 #[.pointer (some ⟨m, 0, none⟩), .int .i64 z] w fun e w' => e = .returned (.tuple #[]) ∧ Ts w0 c0 (N + 1) p m l f (resF z g) w' := by
  obtain ⟨c, h1, h2, h3, ⟨S, h4, h5, h6⟩, h7, h8⟩ := H
  refine (resetR_any h4 (by omega) z).mono fun e w' he => Ts.right ⟨c, h1, h2, h3.mono (Nat.le_succ _), ⟨_, he, fun y => ?_, Nat.le_trans set_len (by omega)⟩, h7, h8.res⟩
  rw [get_res, fun_of h5]
/-- Both have just been made. -/
theorem Ts.made {wa : World} (h1 : Mtr wa (rc (fun _ => 0) w.heap.size 1) 1 0 p l fun _ => Q3.nul) (b1 : Below w.heap.size w wa) :
    Ts w (fun _ => 0) 0 p wa.heap.size l (fun _ => Q3.nul) (fun _ => Q3.nul) (wa.alloc (.cells #[.int .i64 l.b, .int .i64 l.o, .int .i64 l.h, .slice none 0 0] 31)) := by
  have hb2 : Below wa.heap.size wa (wa.alloc (.cells #[.int .i64 l.b, .int .i64 l.o, .int .i64 l.h, .slice none 0 0] 31)) := (Below.refl _ _).alloc (Nat.le_refl _) _
  have hz := b1.size
  exact ⟨rc (rc (fun _ => 0) w.heap.size 1) wa.heap.size 2, fun h hh => by rw [rc_old (by omega), rc_old hh], Kz.ofBelow (Below.then b1 hb2 (Nat.le_refl _)), h1.kept (j := 2) (Kept.ofBelow hb2) (by omega) (fun g hg => rc_old hg), ⟨[], Mmb.made wa _ 2 l, fun _ => rfl, Nat.le_refl _⟩, Gd.nul, Gd.nul⟩
theorem Ts.below (H : Ts w0 (fun _ => 0) N p m l f g w) : Below w0.heap.size w0 w := H.kz.below (fun _ _ => rfl) (Nat.le_refl _)
end
/-- The landed meter alone. -/
def Tl (w0 : World) (c0 : Nat → Nat) (N p : Nat) (l : Q3) (f : Int → Q3) (w : World) : Prop :=
  ∃ c, (∀ h, h < w0.heap.size → c h = c0 h) ∧ Kz c0 w0 w ∧ Mtr w c 1 N p l f ∧ Gd l f
section
variable {w w0 w1 w2 : World} {c0 c : Nat → Nat} {N M p m : Nat} {l : Q3} {f g f' g' : Int → Q3} {z : Int} {q x : Q3}
theorem Tl.kz (H : Tl w0 c0 N p l f w) : Kz c0 w0 w := by
  obtain ⟨c, _, h, _⟩ := H
  exact h
theorem Tl.go (H : Tl w0 c0 N p l f w) (hb : Below w.heap.size w w1) : Tl w0 c0 N p l f w1 := by
  obtain ⟨c, h1, h2, h3, h7⟩ := H
  exact ⟨c, h1, h2.trans h1 (Kz.ofBelow hb), h3.go hb, h7⟩
theorem Tl.base (H : Tl w0 c0 N p l f w) (hb : Below w.heap.size w w1) : ∃ c1, Tl w1 c1 N p l f w1 ∧ (∀ h, w.heap.size ≤ h → c1 h = 0) ∧ ∀ {M : Nat} {f' : Int → Q3} {w2 : World}, Tl w1 c1 M p l f' w2 → Tl w0 c0 M p l f' w2 := by
  obtain ⟨c, h1, h2, h3, h7⟩ := H
  have hz := h2.size
  refine ⟨rc c w.heap.size 0, ⟨_, fun _ _ => rfl, Kz.refl, h3.kept (j := 0) (Kept.ofBelow hb) (by omega) (fun g hg => rc_old hg), h7⟩, fun h hh => rc_new hh, ?_⟩
  rintro M f' w2 ⟨c', k1, k2, k3, k5⟩
  refine ⟨c', fun h hh => ?_, (h2.trans h1 (Kz.ofBelow hb)).trans (fun h hh => ?_) k2, k3, k5⟩
  · rw [k1 h (Nat.lt_of_lt_of_le hh (Nat.le_trans hz hb.size)), rc_old (by omega)]
    exact h1 h hh
  · rw [rc_old (by omega)]
    exact h1 h hh
/-- As base, with what the colours of the elder blocks are. -/
theorem Tl.base4 (H : Tl w0 c0 N p l f w) (hb : Below w.heap.size w w1) : ∃ c1, Tl w1 c1 N p l f w1 ∧ (∀ h, w.heap.size ≤ h → c1 h = 0) ∧ (∀ h, h < w0.heap.size → c1 h = c0 h) ∧ ∀ {M : Nat} {f' : Int → Q3} {w2 : World}, Tl w1 c1 M p l f' w2 → Tl w0 c0 M p l f' w2 := by
  obtain ⟨c, h1, h2, h3, h7⟩ := H
  have hz := h2.size
  refine ⟨rc c w.heap.size 0, ⟨_, fun _ _ => rfl, Kz.refl, h3.kept (j := 0) (Kept.ofBelow hb) (by omega) (fun g hg => rc_old hg), h7⟩, fun h hh => rc_new hh, fun h hh => (rc_old (by omega)).trans (h1 h hh), ?_⟩
  rintro M f' w2 ⟨c', k1, k2, k3, k5⟩
  refine ⟨c', fun h hh => ?_, (h2.trans h1 (Kz.ofBelow hb)).trans (fun h hh => ?_) k2, k3, k5⟩
  · rw [k1 h (Nat.lt_of_lt_of_le hh (Nat.le_trans hz hb.size)), rc_old (by omega)]
    exact h1 h hh
  · rw [rc_old (by omega)]
    exact h1 h hh
/-- A box of the colour 0 is written over: a new start. -/
theorem Tl.put {b : Nat} (H : Tl w0 c0 N p l f w) (h0 : c0 b = 0) (hlt : b < w0.heap.size) (v0 v1 v2 : Value) :
    ∃ c, (∀ g, g < w0.heap.size → c g = c0 g) ∧ Tl (((w.setCell ⟨b, 0, none⟩ v0).setCell ⟨b, 1, none⟩ v1).setCell ⟨b, 2, none⟩ v2) c N p l f (((w.setCell ⟨b, 0, none⟩ v0).setCell ⟨b, 1, none⟩ v1).setCell ⟨b, 2, none⟩ v2) := by
  obtain ⟨c, h1, h2, h3, h7⟩ := H
  have e := (h1 b hlt).trans h0
  have k : Kept c 0 w (((w.setCell ⟨b, 0, none⟩ v0).setCell ⟨b, 1, none⟩ v1).setCell ⟨b, 2, none⟩ v2) :=
    ((Kept.ofGrown (run_setAt w b 0 v0) (fun g h => by cases h; exact e)).trans (Kept.ofGrown (run_setAt _ b 1 v1) (fun g h => by cases h; exact e))).trans (Kept.ofGrown (run_setAt _ b 2 v2) (fun g h => by cases h; exact e))
  exact ⟨c, h1, c, fun _ _ => rfl, Kz.refl, h3.kept k (by omega) (fun _ _ => rfl), h7⟩
theorem Tl.left {r : Value} {e : Ending} (H : ∃ c, (∀ h, h < w0.heap.size → c h = c0 h) ∧ Kz c0 w0 w ∧ LtE w c 1 M p l r f' e w1 ∧ Gd l f') : e = .returned r ∧ Tl w0 c0 M p l f' w1 := by
  obtain ⟨c, h1, h2, ⟨e1, e2, e3⟩, h7⟩ := H
  have hz := h2.size
  exact ⟨e1, _, fun h hh => (rc_old (by omega)).trans (h1 h hh), h2.trans h1 (Kz.ofKept e3 (by omega)), e2, h7⟩
theorem Tl.getL (H : Tl w0 c0 N p l f w) (hz : Ri z) : Calls Try.prog 10 #[.pointer (some ⟨p, 0, none⟩), .int .i64 z] w fun e w' => e = .returned (f z).val ∧ Tl w0 c0 N p l f w' := by
  have H' := H
  obtain ⟨c, _, _, h3, _⟩ := H'
  exact (getQ_any h3 hz).mono fun e w' ⟨he, hb⟩ => ⟨he, H.go hb⟩
theorem Tl.addL (H : Tl w0 c0 N p l f w) (hl : l.In) (hz : Ri z) (hN : N < 100000) (q : Q3) : Calls Try.prog 15 #[.pointer (some ⟨p, 0, none⟩), .int .i64 z, q.val] w fun e w' => e = .returned (.int .i64 (fitE l (f z) q)) ∧ Tl w0 c0 (N + 1) p l (addF l z q f) w' := by
  obtain ⟨c, h1, h2, h3, h7⟩ := H
  exact (add_any h3 hz h7 hl hN q).mono fun e w' he => Tl.left ⟨c, h1, h2, he, h7.add⟩
theorem Tl.subL (H : Tl w0 c0 N p l f w) (hl : l.In) (hz : Ri z) (hN : N < 100000) (hi : q.In) : Calls Try.prog 17 #[.pointer (some ⟨p, 0, none⟩), .int .i64 z, q.val] w fun e w' => e = .returned (.int .i64 (subE (f z) q)) ∧ Tl w0 c0 (N + 1) p l (subF z q f) w' := by
  obtain ⟨c, h1, h2, h3, h7⟩ := H
  exact (sub_any h3 hz h7 hl hN q hi).mono fun e w' he => Tl.left ⟨c, h1, h2, he, h7.sub⟩
theorem Tl.made {wa : World} (h1 : Mtr wa (rc (fun _ => 0) w.heap.size 1) 1 0 p l fun _ => Q3.nul) (b1 : Below w.heap.size w wa) : Tl w (fun _ => 0) 0 p l (fun _ => Q3.nul) wa :=
  ⟨rc (fun _ => 0) w.heap.size 1, fun h hh => rc_old hh, Kz.ofBelow b1, h1, Gd.nul⟩
theorem Tl.below (H : Tl w0 (fun _ => 0) N p l f w) : Below w0.heap.size w0 w := H.kz.below (fun _ _ => rfl) (Nat.le_refl _)
theorem add_at (hx : f z = x) (he : fitE l x q = 0) : addF l z q f z = x.add q := by
  unfold addF
  rw [hx, if_pos he, upd_at]
theorem add_no (hx : f z = x) (he : fitE l x q ≠ 0) : addF l z q f = f := by
  unfold addF
  rw [hx, if_neg he]
theorem sub_at (hx : f z = x) (he : subE x q = 0) : subF z q f z = x.sub q := by
  unfold subF
  rw [hx, if_pos he, upd_at]
theorem sub_no (hx : f z = x) (he : subE x q ≠ 0) : subF z q f = f := by
  unfold subF
  rw [hx, if_neg he]
end
end Go.Proofs.Ytfhpdjlppblkcaa
