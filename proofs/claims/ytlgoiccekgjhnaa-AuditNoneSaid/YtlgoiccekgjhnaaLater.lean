/-
  A region that draws its order, whose operations read and whose callees may make memory but change none that was there: one walk, in the order of the text. No conditions beyond those that each lemma states.
-/
import Derived.Test.YtlgoiccekgjhnaaRow
import Derived.Deep.QuietTactic
import Derived.BigQuiet
import Derived.StillTail
namespace Go.Proofs.Ytlgoiccekgjhnaa
open Go.RowKit

/-- The worlds that come behind W: nothing that was in W has changed. -/
def Later (W : World) : Type := { w' : World // Below W.heap.size W w' }
instance laterThere (W : World) : Nonempty (Later W) := ⟨⟨W, Below.refl _ _⟩⟩
theorem Below.then {w w' w'' : World} {B : Nat} (h : Below B w w') (h' : Below w'.heap.size w' w'') (hB : B ≤ w.heap.size) : Below B w w'' :=
  h.trans (h'.mono (Nat.le_trans hB h.size))
theorem later_old {W : World} (m : Later W) {b o : Nat} {v : Value} (h : W.cell? ⟨b, o, none⟩ = some v) : m.val.cell? ⟨b, o, none⟩ = some v :=
  (m.2.cell (p := ⟨b, o, none⟩) (lt_of_some h)).trans h
theorem cell_alloc {w : World} {cs : Array Value} {t : TypeId} {i : Nat} {v : Value} (h : cs[i]? = some v) : (w.alloc (.cells cs t)).cell? ⟨w.heap.size, i, none⟩ = some v := by
  rw [cell_of_row (w.alloc (.cells cs t)) w.heap.size i cs t (0, 0) (heap_alloc_new w _)]
  exact h
theorem cell_under {w : World} {b o : Nat} {v : Value} (h : w.cell? ⟨b, o, none⟩ = some v) (x : Obj) : (w.alloc x).cell? ⟨b, o, none⟩ = some v :=
  (((Below.refl w.heap.size w).alloc (Nat.le_refl _) x).cell (p := ⟨b, o, none⟩) (lt_of_some h)).trans h
section
variable {P : Program}
theorem Calls.later {f : FuncId} {args : Array Value} {W : World} {m : Later W} {v : Value}
    (h : Calls P f args m.val fun e w' => e = .returned v ∧ Below m.val.heap.size m.val w') : Calls P f args m.val fun e w'' => e = .returned v ∧ ∃ m' : Later W, w'' = m'.val :=
  h.mono fun _ w' ⟨he, hb⟩ => ⟨he, ⟨w', Below.then m.2 hb (Nat.le_refl _)⟩, rfl⟩
theorem wp_region_later {id : Nat} {Q : Exit → Act → World → Prop} {a : Act} {W : World} {l : List Oper} (hm : P.follows .mixedOrders = true) (hB : Region.lexB .any l.toArray = true)
    (h : wpQuiet P l.toArray (fun w' => ∃ m : Later W, w' = m.val) (fun a' => ∀ w', (∃ m : Later W, w' = m.val) → Q .normal a' w') l a) : (Code.region id l.toArray true).wp P Q a W :=
  wp_region_quiet (C := fun w' => ∃ m : Later W, w' = m.val) hm hB ⟨⟨W.drewN 1, below_drewN (Below.refl _ _) 1⟩, rfl⟩ (by simpa using h)
end

/-! A region with a tail: the first n operations read and call so, in whatever order; the rest comes behind them, in one order. -/
section
variable {P : Program} {l : List Oper} {C : World → Prop} {Q : Exit → Act → World → Prop} {Lq : Act → Prop} {n : Nat}
/-- What a program can check of such a region. -/
def tailB (l : List Oper) (n : Nat) : Bool :=
  decide (n < l.length) && Region.lexB .any (l.take n).toArray && Region.sinkB .any l.toArray n && Region.chainB .any l.toArray n
    && Region.seqB .any l.toArray (l.length - n) n (Array.replicate n true ++ Array.replicate (l.length - n) false)
    && (l.take n).all (fun o => match o.guard with
      | some (k, _) => decide (k < n)
      | none => true)
    && (List.range n).all fun i => match l[i]? with
      | some o => o.after.all fun e => !Region.binds .any e || decide (e.on < i)
      | none => true
theorem any_more {md : Region.Mode} {ops : Array Oper} : ∀ {f g : Nat} {listed : Array Bool} {a : Act} {w : World}, f ≤ g → wpAny P md ops Q f listed a w → wpAny P md ops Q g listed a w
  | 0, 0, _, _, _, _, h => h
  | 0, g + 1, listed, a, w, _, h => ⟨fun _ => h.2, fun i hi => by rw [h.1] at hi; cases hi⟩
  | f + 1, g + 1, listed, a, w, hfg, h => ⟨h.1, fun i hi => wpOp_mono (fun _ _ h' => any_more (by omega) h') (h.2 i hi)⟩
theorem head_at {i : Nat} (hi : i < n) : (l.take n).toArray[i]? = l.toArray[i]? := by
  simp [hi]
theorem head_op {i : Nat} (hi : i < n) (hg : ∀ o, l[i]? = some o → ∀ k b, o.guard = some (k, b) → k < n) {K : Act → World → Prop} {a : Act} {w : World}
    (h : wpOp P (l.take n).toArray Q i K a w) : wpOp P l.toArray Q i K a w := by
  unfold wpOp at *
  rw [head_at hi] at h
  cases ho : l.toArray[i]? with
  | none => simp only [ho] at h ⊢; exact h
  | some o =>
    have hw : Region.wanted o (yielded (l.take n).toArray a.tmps) = Region.wanted o (yielded l.toArray a.tmps) := by
      unfold Region.wanted
      cases hgd : o.guard with
      | none => rfl
      | some kb =>
        obtain ⟨k, b⟩ := kb
        have hk := hg o (by simpa using ho) k b hgd
        simp only [yielded, head_at hk]
    simp only [ho] at h ⊢
    rw [hw] at h
    exact h
theorem least_open {listed : Array Bool} {m : Nat} : (∀ j, j < m → listed.getD j false = true) ∨ ∃ j, j < m ∧ listed.getD j false = false ∧ ∀ i, i < j → listed.getD i false = true := by
  induction m with
  | zero => exact .inl fun j hj => by omega
  | succ m ih =>
    rcases ih with h | ⟨j, hj, h1, h2⟩
    · by_cases hm : listed.getD m false = true
      · refine .inl fun j hj => ?_
        rcases Nat.lt_or_ge j m with h' | h'
        · exact h j h'
        · obtain rfl : j = m := by omega
          exact hm
      · exact .inr ⟨m, by omega, by simpa using hm, h⟩
    · exact .inr ⟨j, by omega, h1, h2⟩
theorem any_of_head (hn : n < l.length) (hs : Region.sinkB .any l.toArray n = true) (hc : Region.chainB .any l.toArray n = true)
    (hq : Region.seqB .any l.toArray (l.length - n) n (Array.replicate n true ++ Array.replicate (l.length - n) false) = true)
    (hg : ∀ i o, i < n → l[i]? = some o → ∀ k b, o.guard = some (k, b) → k < n) (he : ∀ i o, i < n → l[i]? = some o → ∀ e ∈ o.after, Region.binds .any e = true → e.on < i)
    (hL : ∀ a w, C w → Lq a → wpList P l.toArray Q (l.drop n) a w) :
    ∀ (f : Nat) (listed heads : Array Bool) (a : Act) (w : World), HeadInv .any l.toArray n listed → heads.size = n → (∀ i, i < n → heads.getD i false = listed.getD i false) → C w →
      wpAnyQ P .any (l.take n).toArray C Lq f heads a → wpAny P .any l.toArray Q (f + (l.length - n)) listed a w := by
  intro f
  induction f with
  | zero =>
    intro listed heads a w inv hz hsame hw h
    rcases least_open (listed := listed) (m := n) with hall | ⟨j, hj, h1, h2⟩
    · have hlist : listed = Array.replicate n true ++ Array.replicate (l.length - n) false := by
        have hsz := inv.size
        simp only [List.size_toArray] at hsz
        refine Array.ext (by simp; omega) fun i h3 h4 => ?_
        rcases Nat.lt_or_ge i n with h5 | h5
        · have := hall i h5
          rw [Array.getElem_append_left (by simpa using h5)]
          simp [h3] at this ⊢
          exact this
        · have := inv.tail i h5 (by simp; omega)
          rw [Array.getElem_append_right (by simpa using h5)]
          simp [h3] at this ⊢
          exact this
      have := wpAny_of_seq (md := .any) (Q' := Q) (l.drop n) n listed a w (fun j => by simp [List.getElem?_drop]) (by rw [List.length_drop, hlist]; exact hq) (hL a w hw h.2)
      rw [List.length_drop] at this
      rw [Nat.zero_add]
      exact this
    · exfalso
      have hr : j ∈ Region.ready .any (l.take n).toArray heads := by
        refine mem_ready.2 ⟨?_, l[j]'(by omega), by simp [hj, Nat.lt_trans hj hn], fun e hee hbd => ?_⟩
        · exact getD_in (by omega) (by rw [hsame j hj]; exact h1)
        · have := he j _ hj (List.getElem?_eq_getElem (by omega)) e hee hbd
          rw [hsame e.on (by omega)]
          exact h2 e.on this
      rw [h.1] at hr
      cases hr
  | succ f ih =>
    intro listed heads a w inv hz hsame hw h
    rcases least_open (listed := listed) (m := n) with hall | ⟨j, hj, h1, h2⟩
    · have hr : Region.ready .any (l.take n).toArray heads = [] := by
        refine List.eq_nil_iff_forall_not_mem.2 fun i hi => ?_
        obtain ⟨g1, o, g2, _⟩ := mem_ready.1 hi
        have hin : i < n := by
          have := (Array.getElem?_eq_some_iff.1 g2).1
          simp at this
          omega
        have := hall i hin
        rw [← hsame i hin, getD_both g1] at this
        cases this
      refine any_more (f := 0 + (l.length - n)) (by omega) ?_
      have hlist : listed = Array.replicate n true ++ Array.replicate (l.length - n) false := by
        have hsz := inv.size
        simp only [List.size_toArray] at hsz
        refine Array.ext (by simp; omega) fun i h3 h4 => ?_
        rcases Nat.lt_or_ge i n with h5 | h5
        · have := hall i h5
          rw [Array.getElem_append_left (by simpa using h5)]
          simp [h3] at this ⊢
          exact this
        · have := inv.tail i h5 (by simp; omega)
          rw [Array.getElem_append_right (by simpa using h5)]
          simp [h3] at this ⊢
          exact this
      have := wpAny_of_seq (md := .any) (Q' := Q) (l.drop n) n listed a w (fun j => by simp [List.getElem?_drop]) (by rw [List.length_drop, hlist]; exact hq) (hL a w hw (h.1 hr))
      rw [List.length_drop] at this
      rw [Nat.zero_add]
      exact this
    · have hun : listed.getD j true = false := getD_in (by have := inv.size; simp at this; omega) h1
      have hjr : j ∈ Region.ready .any l.toArray listed :=
        mem_ready.2 ⟨hun, l[j]'(by omega), by simp [Nat.lt_trans hj hn], fun e hee hbd => h2 e.on (he j _ hj (List.getElem?_eq_getElem (by omega)) e hee hbd)⟩
      rw [show f + 1 + (l.length - n) = (f + (l.length - n)) + 1 by omega]
      refine ⟨fun h0 => (by rw [h0] at hjr; cases hjr), fun i hi => ?_⟩
      have hin : i < n := by
        rcases Nat.lt_or_ge i n with h' | h'
        · exact h'
        · exact absurd hi (tail_waits hs hc (by simpa using hn) inv _ j rfl hj hun i h')
      obtain ⟨g1, o, g2, g3⟩ := mem_ready.1 hi
      have hih : i ∈ Region.ready .any (l.take n).toArray heads := by
        refine mem_ready.2 ⟨?_, o, by rw [head_at hin]; exact g2, fun e hee hb => ?_⟩
        · exact getD_in (by omega) (by rw [hsame i hin]; exact getD_both g1)
        · have := he i o hin (by simpa using g2) e hee hb
          rw [hsame e.on (by omega)]
          exact g3 e hee hb
      refine head_op hin (fun o' ho' => hg i o' hin ho') (wpOp_of_qOp hw (fun a' w' hw' h' => ?_) (h.2 i hih))
      refine ih _ _ a' w' (inv.set hi hin) (by simpa using hz) (fun k hk => ?_) hw' h'
      by_cases hik : i = k
      · subst hik
        have e1 : i < heads.size := by omega
        have e2 : i < listed.size := by have := inv.size; simp at this; omega
        simp [e1, e2]
      · rw [getD_set_ne false hik, getD_set_ne false hik]
        exact hsame k hk
theorem wp_region_tail {id : Nat} {a : Act} {w : World} (n : Nat) (hm : P.follows .mixedOrders = true) (hB : tailB l n = true) (hC : C { w with drawn := w.drawn + 1 })
    (h : wpQuiet P (l.take n).toArray C (fun a' => ∀ w', C w' → wpList P l.toArray Q (l.drop n) a' w') (l.take n) a) : (Code.region id l.toArray true).wp P Q a w := by
  simp only [tailB, Bool.and_eq_true, decide_eq_true_eq] at hB
  obtain ⟨⟨⟨⟨⟨⟨hn, hx⟩, hs⟩, hc⟩, hq⟩, hg⟩, he⟩ := hB
  simp only [Region.lexB, Bool.and_eq_true] at hx
  have H := wpAnyQ_lex (C := C) (md := .any) hx.1 (l.take n) 0 (Array.replicate (l.take n).toArray.size false) a (by simp) (by simpa using hx.2) h
  have htl : (l.take n).length = n := by simp; omega
  have inv0 : HeadInv .any l.toArray n (Array.replicate l.toArray.size false) :=
    ⟨by simp, fun j oj _ hl => (by rw [getD_replicate_false] at hl; cases hl), fun t _ ht => getD_in (by simpa using ht) (getD_replicate_false _ _)⟩
  refine wp_region_any hm ?_
  have := any_of_head hn hs hc hq (fun i o hi ho k b hgd => by
      have h1 := List.all_eq_true.1 hg o (List.mem_of_getElem? (i := i) (by rw [List.getElem?_take, if_pos hi]; exact ho))
      simp only [hgd, decide_eq_true_eq] at h1
      exact h1) (fun i o hi ho e hee hbd => by
      have h1 := List.all_eq_true.1 he i (List.mem_range.2 hi)
      simp only [ho] at h1
      have h2 := Array.all_eq_true'.1 h1 e hee
      simpa [hbd] using h2) (fun a' w' hw' hl => hl w' hw') _ (Array.replicate l.toArray.size false) _ a { w with drawn := w.drawn + 1 } inv0 (by simp; omega)
      (fun i hi => by rw [getD_replicate_false, getD_replicate_false]) hC H
  rw [htl, show n + (l.length - n) = l.toArray.size by simp; omega] at this
  exact this
theorem wp_region_later_tail {id : Nat} {a : Act} {W : World} (n : Nat) (hm : P.follows .mixedOrders = true) (hB : tailB l n = true)
    (h : wpQuiet P (l.take n).toArray (fun w' => ∃ m : Later W, w' = m.val) (fun a' => ∀ w', (∃ m : Later W, w' = m.val) → wpList P l.toArray Q (l.drop n) a' w') (l.take n) a) : (Code.region id l.toArray true).wp P Q a W :=
  wp_region_tail (C := fun w' => ∃ m : Later W, w' = m.val) n hm hB ⟨⟨W.drewN 1, below_drewN (Below.refl _ _) 1⟩, rfl⟩ h
end
end Go.Proofs.Ytlgoiccekgjhnaa
