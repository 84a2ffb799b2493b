/-
  Pure: the offsets of a valid list are ascending, contained, and as many as the total.
-/
import Derived.Test.YtolfcoaipcaoaaaSeq
import Derived.Test.YtolfcoaipcaoaaaSetLaw
namespace Go.Proofs.Ytolfcoaipcaoaaa
open Go.ChangeShapes Go.WideShapes Go.ChangeAt Go.RowKit Go.Shelf
set_option maxHeartbeats 2000000

def lastOf (pre : List Int) : Int := pre.getLast?.getD (-1)
theorem lastOf_snoc {pre : List Int} {x : Int} : lastOf (pre ++ [x]) = x := by simp [lastOf]
theorem fst_mem {x t : Int} {k : Nat} (h : t ∈ fst_ x k) : x ≤ t ∧ t < x + k := by
  simp only [fst_, List.mem_map, List.mem_range] at h
  obtain ⟨i, hi, rfl⟩ := h
  omega
theorem fst_pw {x : Int} {k : Nat} : (fst_ x k).Pairwise (· < ·) := by
  induction k with
  | zero => simp [fst_]
  | succ k ih =>
    rw [fst_succ, List.pairwise_append]
    refine ⟨ih, List.pairwise_singleton _ _, ?_⟩
    intro a ha b hb
    have := fst_mem ha
    simp only [List.mem_singleton] at hb
    omega
theorem offs_gt {p : Int} : ∀ {l : List (Int × Int)}, Va p l → ∀ t ∈ offs l, p < t
  | x :: l, ⟨h1, h2, h3, h4, h5⟩, t, ht => by
    rcases List.mem_append.1 ht with h | h
    · have := fst_mem h; omega
    · have := offs_gt h5 t h; omega
theorem offs_pw {p : Int} : ∀ {l : List (Int × Int)}, Va p l → (offs l).Pairwise (· < ·)
  | [], _ => List.Pairwise.nil
  | x :: l, ⟨h1, h2, h3, h4, h5⟩ => by
    refine List.pairwise_append.2 ⟨fst_pw, offs_pw h5, ?_⟩
    intro a ha b hb
    have := fst_mem ha
    have := offs_gt h5 b hb
    omega
theorem offs_cnt {p : Int} : ∀ {l : List (Int × Int)}, Va p l → ∀ t ∈ offs l, cnt l t = true
  | x :: l, ⟨h1, h2, h3, h4, h5⟩, t, ht => by
    simp only [cnt, List.any_cons, Bool.or_eq_true]
    rcases List.mem_append.1 ht with h | h
    · left
      have := fst_mem h
      have e : wrap64 (t - x.1) = t - x.1 := by simp only [wrap64]; omega
      simp [hit, e]
      omega
    · right
      exact offs_cnt h5 t h
theorem offs_len {p : Int} : ∀ {l : List (Int × Int)}, Va p l → ((offs l).length : Int) = sm l
  | [], _ => rfl
  | x :: l, ⟨h1, h2, h3, h4, h5⟩ => by
    have := offs_len h5
    simp only [offs, List.length_append, fst_len, sm]
    omega
theorem offs_good {l : List (Int × Int)} (hv : Va (-1) l) {pre : List Int} {x : Int} (h : pre ++ [x] <+: offs l) : lastOf pre < x ∧ cnt l x = true := by
  refine ⟨?_, offs_cnt hv x (h.subset (by simp))⟩
  rcases List.eq_nil_or_concat pre with rfl | ⟨q, y, rfl⟩
  · exact offs_gt hv x (h.subset (by simp))
  · rw [List.concat_eq_append, lastOf_snoc]
    have hp : (q ++ [y] ++ [x]).Pairwise (· < ·) := by
      have := List.Pairwise.sublist h.sublist (offs_pw hv)
      simpa [List.concat_eq_append] using this
    rw [List.pairwise_append] at hp
    exact hp.2.2 y (by simp) x (by simp)
/-- A round that returns has seen what cannot come. -/
def Bad (l : List (Int × Int)) (pre : List Int) : Prop := ∃ q x, pre = q ++ [x] ∧ (x ≤ lastOf q ∨ cnt l x = false)
theorem bad_not {l : List (Int × Int)} (hv : Va (-1) l) {pre : List Int} (h : pre <+: offs l) : ¬ Bad l pre := by
  rintro ⟨q, x, rfl, hb⟩
  have := offs_good hv h
  rcases hb with h1 | h1
  · omega
  · rw [this.2] at h1; cases h1
theorem keepsOthers_below {A B : World} (h : Below A.heap.size A B) : KeepsOthers A B :=
  ⟨h.size, fun k o hk _ => by rw [h.block k (Array.getElem?_eq_some_iff.1 hk).1]; exact hk⟩
/-- A block of one cell that may be written. -/
def Cel (w : World) (b : Nat) (t : TypeId) (v : Value) : Prop := w.heap[b]? = some (.cells #[v] t (0, 0))
section
variable {w w' : World} {b b' B : Nat} {t : TypeId} {v u : Value}
theorem Cel.lt (h : Cel w b t v) : b < w.heap.size := (Array.getElem?_eq_some_iff.1 h).1
theorem Cel.new : Cel (w.alloc (.cells #[v] t)) w.heap.size t v := heap_alloc_new w _
theorem Cel.below (h : Cel w b t v) (hb : Below B w w') (hB : b < B) : Cel w' b t v := (hb.block b hB).trans h
theorem Cel.go (h : Cel w b t v) (hb : Below w.heap.size w w') : Cel w' b t v := h.below hb h.lt
theorem Cel.cell (h : Cel w b t v) : w.cell? ⟨b, 0, none⟩ = some v := cell_of_row w b 0 _ _ _ h
theorem Cel.fr (h : Cel w b t v) : w.frozen? ⟨b, 0, none⟩ = false := frozen_of_row w b 0 _ _ h
theorem Cel.set (h : Cel w b t v) (u : Value) : Cel (w.setCell ⟨b, 0, none⟩ u) b t u := heap_setCell_same w b 0 _ _ _ h
theorem Cel.other (h : Cel w b t v) (hne : b ≠ b') (u : Value) : Cel (w.setCell ⟨b', 0, none⟩ u) b t v := Boxed.other (W := w) (B := b) (t := t) (v := v) h hne u
end
theorem cel_own {β : Type} (N b : Nat) (t : TypeId) (f : β → Value) : OwnFrom N (fun s W => Cel W b t (f s)) := Go.Own.from (boxed_own b t f) N
/-- The block for the rounds' deferred calls is empty and open. -/
def Df (w : World) (D : Nat) : Prop := w.heap[D]? = some (.deferred (some []))
section
variable {w w' : World} {D D' b B : Nat} {t : TypeId} {v u : Value}
theorem Df.lt (h : Df w D) : D < w.heap.size := (Array.getElem?_eq_some_iff.1 h).1
theorem Df.go (h : Df w D) (hb : Below w.heap.size w w') : Df w' D := (hb.block D h.lt).trans h
theorem Df.set (h : Df w D) (b : Addr) (u : Value) : Df (w.setCell b u) D := (KeepsOthers.setCell w b u).same D _ h rfl
theorem Df.put (h : Df w D) (hne : D ≠ D') (o : Obj) : Df (w.putObj D' o) D := (World.putObj_heap_other hne).trans h
theorem Cel.put (h : Cel w b t v) (hd : Df w D) (o : Obj) : Cel (w.putObj D o) b t v := (World.putObj_heap_other (fun e => by
  subst e
  unfold Cel at h
  unfold Df at hd
  rw [h] at hd
  cases hd)).trans h
theorem Df.below {a : World} (h : Df w D) (hD : B ≤ D) (hb : Below B a w) (o : Obj) : Below B a (w.putObj D o) := hb.grown (grownBy_putObj' w D o) (by have := h.lt; omega) (fun k e => by cases e; exact hD)
end
theorem leave_one {F : Fence} {n : Nat} {P : Program} {fn : Func} {tmps : Array Value} {R : Ending → World → Prop} {ds : List Deferred} {D : Nat} {W : World} (h : Df W D)
    (k : LeavesInM F n P fn tmps R ds .returning (W.putObj D (.deferred none))) : LeavesInM F n P fn tmps R ({ target := .collected D, args := #[] } :: ds) .returning W := ⟨by simp, .inl ⟨_, _, rfl, run_takeDeferred h, k⟩⟩
end Go.Proofs.Ytolfcoaipcaoaaa
