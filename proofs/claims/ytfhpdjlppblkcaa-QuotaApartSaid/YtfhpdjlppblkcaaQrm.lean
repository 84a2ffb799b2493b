/-
  The model's meter: a struct of limits and a slice of shares. What it tells, what a change leaves; contracts of its Get, set and exceeds. Conditions: at most a hundred thousand shares.
-/
import Derived.Test.YtfhpdjlppblkcaaQmu
namespace Go.Proofs.Ytfhpdjlppblkcaa
open Go.ChangeShapes Go.WideShapes Go.ChangeAt Go.RowKit
set_option linter.unusedVariables false
set_option linter.unusedSimpArgs false
set_option maxHeartbeats 4000000
set_option maxRecDepth 100000

/-- A share: a plugin and what it has. -/
structure Sh where
  p : Int
  q : Q3
def sc (x : Sh) : List Value := [.int .i64 x.p, .int .i64 x.q.b, .int .i64 x.q.o, .int .i64 x.q.h]
def sh4 : Enc Sh where
  k := 4
  ev := sc
  len := fun _ => rfl
  one := fun x u hu => by
    simp only [sc, List.mem_cons, List.not_mem_nil, or_false] at hu
    rcases hu with rfl | rfl | rfl | rfl <;> rfl
  pos := by omega
/-- What a list of shares tells of a plugin; the list behind a change. -/
def getS (z : Int) (S : List Sh) : Q3 := ((S.find? fun x => decide (x.p = z)).map Sh.q).getD Q3.nul
def outS (z : Int) (S : List Sh) : List Sh := S.filter fun x => decide (¬ x.p = z)
def setS (z : Int) (q : Q3) (S : List Sh) : List Sh := outS z S ++ [⟨z, q⟩]
section
variable {z y : Int} {q : Q3} {S : List Sh} {x : Sh} {i : Nat}
theorem get_out_ne (h : y ≠ z) : (outS z S).find? (fun x => decide (x.p = y)) = S.find? fun x => decide (x.p = y) := by
  induction S with
  | nil => rfl
  | cons x S ih =>
    unfold outS at *
    by_cases hx : x.p = z
    · rw [List.filter_cons_of_neg (by simpa using hx), ih, List.find?_cons_of_neg]
      simp only [decide_eq_true_eq]
      exact fun e => h (e.symm.trans hx)
    · rw [List.filter_cons_of_pos (by simpa using hx)]
      by_cases hy : x.p = y
      · rw [List.find?_cons_of_pos (by simpa using hy), List.find?_cons_of_pos (by simpa using hy)]
      · rw [List.find?_cons_of_neg (by simpa using hy), List.find?_cons_of_neg (by simpa using hy), ih]
theorem get_out_same : (outS z S).find? (fun x => decide (x.p = z)) = none := by
  rw [List.find?_eq_none]
  intro x hx
  have := (List.mem_filter.1 hx).2
  simpa using this
theorem get_set : getS y (setS z q S) = upd (fun p => getS p S) z q y := by
  unfold getS setS
  rw [List.find?_append]
  by_cases e : y = z
  · subst e
    rw [get_out_same, upd_at]
    simp
  · rw [get_out_ne e, upd_ne e, List.find?_cons_of_neg (by simpa using fun h => e h.symm)]
    simp
theorem set_len : (setS z q S).length ≤ S.length + 1 := by
  unfold setS outS
  rw [List.length_append]
  have := List.length_filter_le (fun x : Sh => decide (¬ x.p = z)) S
  simp only [List.length_singleton]
  omega
theorem out_step (hx : S[i]? = some x) : outS z (S.take (i + 1)) = outS z (S.take i) ++ (if x.p = z then [] else [x]) := by
  unfold outS
  rw [List.take_add_one, hx, List.filter_append]
  congr 1
  by_cases e : x.p = z <;> simp [e]
theorem find_step (hx : S[i]? = some x) (hn : (S.take i).find? (fun x => decide (x.p = z)) = none) : (¬ x.p = z → (S.take (i + 1)).find? (fun x => decide (x.p = z)) = none) ∧ (x.p = z → getS z S = x.q) := by
  constructor
  · intro e
    rw [List.take_add_one, hx, List.find?_append, hn]
    simp [e]
  · intro e
    have hi := (List.getElem?_eq_some_iff.1 hx)
    have h1 := List.take_append_drop i S
    unfold getS
    rw [← h1, List.find?_append, hn, List.drop_eq_getElem_cons hi.1, hi.2, List.find?_cons_of_pos (by simpa using e)]
    rfl
theorem find_end (h : S.length ≤ i) (hn : (S.take i).find? (fun x => decide (x.p = z)) = none) : getS z S = Q3.nul := by
  rw [List.take_of_length_le h] at hn
  unfold getS
  rw [hn]
  rfl
end
/-- The model's meter at block m, as it reads. -/
def Mmr (w : World) (m : Nat) (l : Q3) (S : List Sh) : Prop := ∃ A n cap, w.heap[m]? = some (.cells #[.int .i64 l.b, .int .i64 l.o, .int .i64 l.h, .slice A n cap] 31 (0, 0)) ∧ Kws sh4 w w.heap.size A n cap S
/-- With a colour. -/
def Mmb (w : World) (c : Nat → Nat) (k m : Nat) (l : Q3) (S : List Sh) : Prop := c m = k ∧ ∃ A n cap, w.heap[m]? = some (.cells #[.int .i64 l.b, .int .i64 l.o, .int .i64 l.h, .slice A n cap] 31 (0, 0)) ∧ OwC k sh4 51 w c (.slice A n cap) S
theorem Kws.sh {w : World} {B n c : Nat} {A : Option Addr} {l : List Sh} (h : Kws sh4 w B A n c l) {i : Nat} (hi : i < n) :
    ∃ b o x, l[i]? = some x ∧ A = some ⟨b, o, none⟩ ∧ b < B ∧ w.cell? ⟨b, o + i * 4, none⟩ = some (.int .i64 x.p) ∧ w.cell? ⟨b, o + i * 4 + 1, none⟩ = some (.int .i64 x.q.b) ∧ w.cell? ⟨b, o + i * 4 + 2, none⟩ = some (.int .i64 x.q.o) ∧ w.cell? ⟨b, o + i * 4 + 3, none⟩ = some (.int .i64 x.q.h) := by
  obtain ⟨b, o, x, h1, h2, h3, h4⟩ := h.at_ hi
  exact ⟨b, o, x, h1, h2, h3, h4 0 _ rfl, h4 1 _ rfl, h4 2 _ rfl, h4 3 _ rfl⟩
theorem infoS : (Try.prog.info? 51).map (fun i => (i.zero, i.size, i.bytes)) = some (some (.agg #[.int .i64 0, .int .i64 0, .int .i64 0, .int .i64 0]), 4, 32) := by kernel_rfl
section
variable {w w' w1 w2 : World} {c c' : Nat → Nat} {j k m N : Nat} {l : Q3} {S S' : List Sh} {z : Int} {q : Q3}
theorem Mmr.lt (H : Mmr w m l S) : m < w.heap.size := by
  obtain ⟨A, n, cap, h2, _⟩ := H
  exact (Array.getElem?_eq_some_iff.1 h2).1
theorem Mmr.go (H : Mmr w m l S) (hb : Below w.heap.size w w') : Mmr w' m l S := by
  have hp := H.lt
  obtain ⟨A, n, cap, h1, h2⟩ := H
  exact ⟨A, n, cap, (hb.block m hp).trans h1, h2.go hb⟩
theorem Mmb.lt (H : Mmb w c k m l S) : m < w.heap.size := by
  obtain ⟨_, A, n, cap, h2, _⟩ := H
  exact (Array.getElem?_eq_some_iff.1 h2).1
theorem Mmb.kept (H : Mmb w c k m l S) (hk : Kept c j w w') (hjk : j ≠ k) (hc : ∀ g, g < w.heap.size → c' g = c g) : Mmb w' c' k m l S := by
  have hp := H.lt
  obtain ⟨h1, A, n, cap, h2, h3⟩ := H
  exact ⟨(hc m hp).trans h1, A, n, cap, (hk.block m hp (by omega)).trans h2, h3.kept hk hjk hc⟩
theorem Mmb.later (H : Mmb w c k m l S) (hb : Below w.heap.size w w1) : Mmb w1 (rc c w.heap.size k) k m l S := H.kept (j := k + 1) (Kept.ofBelow hb) (by omega) (fun g hg => rc_old hg)
theorem Mmb.go (H : Mmb w c k m l S) (hb : Below w.heap.size w w1) : Mmb w1 c k m l S := H.kept (j := k + 1) (Kept.ofBelow hb) (by omega) (fun g hg => rfl)
theorem Mmb.r (H : Mmb w c k m l S) : Mmr w m l S := by
  obtain ⟨_, A, n, cap, h2, h3⟩ := H
  obtain ⟨A', n', cap', e, hk⟩ := h3.1.shape
  cases e
  exact ⟨A, n, cap, h2, hk⟩
/-- What a call leaves that writes the model's meter of colour k. -/
def MtE (w : World) (c : Nat → Nat) (k m : Nat) (l : Q3) (r : Value) (S' : List Sh) (e : Ending) (w' : World) : Prop := e = .returned r ∧ Mmb w' (rc c w.heap.size k) k m l S' ∧ Kept c k w w'
/-- A new row is laid into the meter. -/
theorem Mmb.put {A' : Option Addr} {n' cap' : Nat} (H : Mmb w c k m l S) (hb : Below w.heap.size w w1) (ho : OwnK sh4 51 w1 w.heap.size (.slice A' n' cap') S') :
    Mmb (w1.setCell ⟨m, 3, none⟩ (.slice A' n' cap')) (rc c w.heap.size k) k m l S' ∧ Kept c k w (w1.setCell ⟨m, 3, none⟩ (.slice A' n' cap')) := by
  have hp := H.lt
  obtain ⟨h1, A, n, cap, h2, h3⟩ := H
  have h4 := (hb.block m hp).trans h2
  refine ⟨⟨by rw [rc_old hp]; exact h1, A', n', cap', heap_setCell_same w1 m 3 _ _ _ h4, OwnK.kept (ho.down (Nat.zero_le _)) (run_setAt w1 m 3 _) (.inr fun e => ?_), fun g hg => rc_new (ho.ge hg).1⟩, (Kept.ofBelow hb).trans (Kept.ofGrown (run_setAt w1 m 3 _) (fun g e => by cases e; exact h1))⟩
  have := (ho.ge e).1
  omega
theorem Mmb.made (w : World) (c : Nat → Nat) (k : Nat) (l : Q3) : Mmb (w.alloc (.cells #[.int .i64 l.b, .int .i64 l.o, .int .i64 l.h, .slice none 0 0] 31)) (rc c w.heap.size k) k w.heap.size l [] :=
  ⟨rc_new (Nat.le_refl _), none, 0, 0, heap_alloc_new w _, OwC.nil⟩
theorem excR_any (a q l : Int) (hr : -9223372036854775808 ≤ l - q ∧ l - q ≤ 9223372036854775807) (hl : 0 ≤ a) (w : World) : Calls Try.prog 24 #[.int .i64 a, .int .i64 q, .int .i64 l] w fun e w' => e = .returned (.bool (decide (l < a + q))) ∧ w' = w := by
  have hw : IntKind.i64.wrap (l - q) = l - q := IntWalk.i64_in _ hr
  by_cases h1 : l < q
  · rw [decide_eq_true (show l < a + q by omega)]
    clear hr hl
    go_enter Try.func24, Try.ntmps24
    go_wp2
    go_ret
    exact ⟨rfl, rfl⟩
  · by_cases h : l < a + q
    · rw [decide_eq_true h]
      have hd : l - q < a := by omega
      clear h hr hl
      go_enter Try.func24, Try.ntmps24
      go_wp2
      go_ret
      exact ⟨rfl, rfl⟩
    · rw [decide_eq_false h]
      have hd : ¬ l - q < a := by omega
      clear h hr hl
      go_enter Try.func24, Try.ntmps24
      go_wp2
      go_ret
      exact ⟨rfl, rfl⟩
end
end Go.Proofs.Ytfhpdjlppblkcaa
