/-
  A region that draws its order, at the wide fence of a range over a function: its first n operations read and call, in whatever order; the rest comes behind them in one order (a call of yield, say). No conditions beyond those that each theorem states.
-/
import Derived.Test.YtmmlelmkgnhofaaCell
import Derived.OrdersIn
namespace Go.Proofs.Ytmmlelmkgnhofaa
open Go.RowKit
set_option maxHeartbeats 2000000

section
variable {P : Program} {l : List Oper} {C : World → Prop} {Q : Exit → Act → World → Prop} {Lq : Act → Prop} {n N : Nat}
theorem wide_op {o : Oper} {a : Act} {K : Act → Prop} {K' : Act → World → Prop} {w : World} (hw : C w) (h : ∀ a w', C w' → K a → K' a w') (hh : o.quiet P a C K) : o.wpIn Fence.wide N P a w K' Q := by
  obtain ⟨v, h1, h2⟩ := hh
  have h3 := h1 w hw
  unfold Oper.quietAt at h3
  unfold Oper.wpIn
  refine ⟨fun _ _ => trivial, ?_⟩
  rw [show Fence.wide.round = none from rfl, Oper.semAt_none]
  generalize (execOp a.eval o).run P w = r at *
  cases r with
  | halt x w' => exact h3.elim
  | ok x w' =>
    cases x <;> simp only [Oper.quietUpon] at h3 <;> simp only [Oper.uponIn]
    case value u =>
      obtain ⟨rfl, rfl⟩ := h3
      exact h _ _ hw h2
    case skip =>
      obtain ⟨rfl, rfl⟩ := h3
      exact h _ _ hw h2
    case enter f args =>
      obtain ⟨rfl, hc⟩ := h3
      refine ⟨fun hd => (by cases hd), callsIn_wide.2 (hc.mono fun e w'' he => ?_)⟩
      obtain ⟨rfl, hw''⟩ := he
      exact h _ _ hw'' h2
theorem wideOp_of_q {ops : Array Oper} {i : Nat} {a : Act} {K : Act → Prop} {K' : Act → World → Prop} {w : World} (hC : C w) (h : ∀ a w', C w' → K a → K' a w') (hh : qOp P ops C i K a) : wpOpIn Fence.wide N P ops Q i K' a w := by
  unfold qOp at hh
  unfold wpOpIn
  split
  · rename_i ho
    simp only [ho] at hh
    exact h _ _ hC hh
  · rename_i o ho
    simp only [ho] at hh
    split
    · rename_i hw
      simp only [hw, if_true] at hh
      exact wide_op hC h hh
    · rename_i hw
      simp only [hw] at hh
      exact ⟨fun _ _ => trivial, h _ _ hC hh⟩
theorem headIn_op {i : Nat} (hi : i < n) (hg : ∀ o, l[i]? = some o → ∀ k b, o.guard = some (k, b) → k < n) {K : Act → World → Prop} {a : Act} {w : World}
    (h : wpOpIn Fence.wide N P (l.take n).toArray Q i K a w) : wpOpIn Fence.wide N P l.toArray Q i K a w := by
  unfold wpOpIn at *
  rw [head_at hi] at h
  cases ho : l.toArray[i]? with
  | none => simp only [ho] at h ⊢; exact h
  | some o =>
    have hw : Region.wanted o (yielded (l.take n).toArray a.tmps) = Region.wanted o (yielded l.toArray a.tmps) := by
      unfold Region.wanted
      cases hgd : o.guard with
      | none => rfl
      | some kb =>
        obtain ⟨k, b⟩ := kb
        have hk := hg o (by simpa using ho) k b hgd
        simp only [yielded, head_at hk]
    simp only [ho] at h ⊢
    rw [hw] at h
    exact h
theorem anyIn_of_seq {ops : Array Oper} {md : Region.Mode} : ∀ (l : List Oper) (k : Nat) (listed : Array Bool) (a : Act) (w : World), (∀ j, l[j]? = ops[k + j]?) →
    Region.seqB md ops l.length k listed = true → wpListIn Fence.wide N P ops Q l a w → wpAnyIn Fence.wide N P md ops Q l.length listed a w
  | [], _, _, _, _, _, hB, h => ⟨by simpa [Region.seqB] using hB, h⟩
  | o :: l, k, listed, a, w, hl, hB, h => by
    have h0 : ops[k]? = some o := by simpa using (hl 0).symm
    simp only [List.length_cons, Region.seqB, Bool.and_eq_true, decide_eq_true_eq] at hB
    refine ⟨fun h1 => (by rw [hB.1] at h1; cases h1), fun i hi => ?_⟩
    rw [hB.1] at hi
    have hik : i = k := by simpa using hi
    subst hik
    have hw : wpOpIn Fence.wide N P ops Q i (wpListIn Fence.wide N P ops Q l) a w := by unfold wpOpIn; simp only [h0]; exact h
    exact wpOpIn_mono (fun a' w' h' => anyIn_of_seq l (i + 1) _ a' w' (fun j => by have := hl (j + 1); simpa [Nat.add_assoc, Nat.add_comm 1 j] using this) hB.2 h') hw
theorem anyIn_more {md : Region.Mode} {ops : Array Oper} : ∀ {f g : Nat} {listed : Array Bool} {a : Act} {w : World}, f ≤ g → wpAnyIn Fence.wide N P md ops Q f listed a w → wpAnyIn Fence.wide N P md ops Q g listed a w
  | 0, 0, _, _, _, _, h => h
  | 0, g + 1, listed, a, w, _, h => ⟨fun _ => h.2, fun i hi => by rw [h.1] at hi; cases hi⟩
  | f + 1, g + 1, listed, a, w, hfg, h => ⟨h.1, fun i hi => wpOpIn_mono (fun _ _ h' => anyIn_more (by omega) h') (h.2 i hi)⟩
theorem anyIn_of_head (hn : n < l.length) (hs : Region.sinkB .any l.toArray n = true) (hc : Region.chainB .any l.toArray n = true)
    (hq : Region.seqB .any l.toArray (l.length - n) n (Array.replicate n true ++ Array.replicate (l.length - n) false) = true)
    (hg : ∀ i o, i < n → l[i]? = some o → ∀ k b, o.guard = some (k, b) → k < n) (he : ∀ i o, i < n → l[i]? = some o → ∀ e ∈ o.after, Region.binds .any e = true → e.on < i)
    (hL : ∀ a w, C w → Lq a → wpListIn Fence.wide N P l.toArray Q (l.drop n) a w) :
    ∀ (f : Nat) (listed heads : Array Bool) (a : Act) (w : World), HeadInv .any l.toArray n listed → heads.size = n → (∀ i, i < n → heads.getD i false = listed.getD i false) → C w →
      wpAnyQ P .any (l.take n).toArray C Lq f heads a → wpAnyIn Fence.wide N P .any l.toArray Q (f + (l.length - n)) listed a w := by
  have full : ∀ listed : Array Bool, HeadInv .any l.toArray n listed → (∀ j, j < n → listed.getD j false = true) → listed = Array.replicate n true ++ Array.replicate (l.length - n) false := fun listed inv hall => by
    have hsz := inv.size
    simp only [List.size_toArray] at hsz
    refine Array.ext (by simp; omega) fun i h3 h4 => ?_
    rcases Nat.lt_or_ge i n with h5 | h5
    · have := hall i h5
      rw [Array.getElem_append_left (by simpa using h5)]
      simp [h3] at this ⊢
      exact this
    · have := inv.tail i h5 (by simp; omega)
      rw [Array.getElem_append_right (by simpa using h5)]
      simp [h3] at this ⊢
      exact this
  have tail : ∀ (listed : Array Bool) (a : Act) (w : World), HeadInv .any l.toArray n listed → (∀ j, j < n → listed.getD j false = true) → wpListIn Fence.wide N P l.toArray Q (l.drop n) a w → wpAnyIn Fence.wide N P .any l.toArray Q (l.length - n) listed a w := fun listed a w inv hall h => by
    have := anyIn_of_seq (md := .any) (Q := Q) (l.drop n) n listed a w (fun j => by simp [List.getElem?_drop]) (by rw [List.length_drop, full listed inv hall]; exact hq) h
    rwa [List.length_drop] at this
  intro f
  induction f with
  | zero =>
    intro listed heads a w inv hz hsame hw h
    rcases least_open (listed := listed) (m := n) with hall | ⟨j, hj, h1, h2⟩
    · rw [Nat.zero_add]
      exact tail listed a w inv hall (hL a w hw h.2)
    · exfalso
      have hr : j ∈ Region.ready .any (l.take n).toArray heads := by
        refine mem_ready.2 ⟨?_, l[j]'(by omega), by simp [hj, Nat.lt_trans hj hn], fun e hee hbd => ?_⟩
        · exact getD_in (by omega) (by rw [hsame j hj]; exact h1)
        · have := he j _ hj (List.getElem?_eq_getElem (by omega)) e hee hbd
          rw [hsame e.on (by omega)]
          exact h2 e.on this
      rw [h.1] at hr
      cases hr
  | succ f ih =>
    intro listed heads a w inv hz hsame hw h
    rcases least_open (listed := listed) (m := n) with hall | ⟨j, hj, h1, h2⟩
    · have hr : Region.ready .any (l.take n).toArray heads = [] := by
        refine List.eq_nil_iff_forall_not_mem.2 fun i hi => ?_
        obtain ⟨g1, o, g2, _⟩ := mem_ready.1 hi
        have hin : i < n := by
          have := (Array.getElem?_eq_some_iff.1 g2).1
          simp at this
          omega
        have := hall i hin
        rw [← hsame i hin, getD_both g1] at this
        cases this
      refine anyIn_more (f := 0 + (l.length - n)) (by omega) ?_
      rw [Nat.zero_add]
      exact tail listed a w inv hall (hL a w hw (h.1 hr))
    · have hun : listed.getD j true = false := getD_in (by have := inv.size; simp at this; omega) h1
      have hjr : j ∈ Region.ready .any l.toArray listed :=
        mem_ready.2 ⟨hun, l[j]'(by omega), by simp [Nat.lt_trans hj hn], fun e hee hbd => h2 e.on (he j _ hj (List.getElem?_eq_getElem (by omega)) e hee hbd)⟩
      rw [show f + 1 + (l.length - n) = (f + (l.length - n)) + 1 by omega]
      refine ⟨fun h0 => (by rw [h0] at hjr; cases hjr), fun i hi => ?_⟩
      have hin : i < n := by
        rcases Nat.lt_or_ge i n with h' | h'
        · exact h'
        · exact absurd hi (tail_waits hs hc (by simpa using hn) inv _ j rfl hj hun i h')
      obtain ⟨g1, o, g2, g3⟩ := mem_ready.1 hi
      have hih : i ∈ Region.ready .any (l.take n).toArray heads := by
        refine mem_ready.2 ⟨?_, o, by rw [head_at hin]; exact g2, fun e hee hb => ?_⟩
        · exact getD_in (by omega) (by rw [hsame i hin]; exact getD_both g1)
        · have := he i o hin (by simpa using g2) e hee hb
          rw [hsame e.on (by omega)]
          exact g3 e hee hb
      refine headIn_op hin (fun o' ho' => hg i o' hin ho') (wideOp_of_q hw (fun a' w' hw' h' => ?_) (h.2 i hih))
      refine ih _ _ a' w' (inv.set hi hin) (by simpa using hz) (fun k hk => ?_) hw' h'
      by_cases hik : i = k
      · subst hik
        have e1 : i < heads.size := by omega
        have e2 : i < listed.size := by have := inv.size; simp at this; omega
        simp [e1, e2]
      · rw [getD_set_ne false hik, getD_set_ne false hik]
        exact hsame k hk
theorem wide_region_tail {id : Nat} {a : Act} {W : World} (n : Nat) (hm : P.follows .mixedOrders = true) (hB : tailB l n = true)
    (h : wpQuiet P (l.take n).toArray (fun w' => ∃ m : Later W, w' = m.val) (fun a' => ∀ w', (∃ m : Later W, w' = m.val) → wpListIn Fence.wide N P l.toArray Q (l.drop n) a' w') (l.take n) a) : (Code.region id l.toArray true).wpIn Fence.wide N P Q a W := by
  simp only [tailB, Bool.and_eq_true, decide_eq_true_eq] at hB
  obtain ⟨⟨⟨⟨⟨⟨hn, hx⟩, hs⟩, hc⟩, hq⟩, hg⟩, he⟩ := hB
  simp only [Region.lexB, Bool.and_eq_true] at hx
  have H := wpAnyQ_lex (C := fun w' => ∃ m : Later W, w' = m.val) (md := .any) hx.1 (l.take n) 0 (Array.replicate (l.take n).toArray.size false) a (by simp) (by simpa using hx.2) h
  have htl : (l.take n).length = n := by simp; omega
  have inv0 : HeadInv .any l.toArray n (Array.replicate l.toArray.size false) :=
    ⟨by simp, fun j oj _ hl => (by rw [getD_replicate_false] at hl; cases hl), fun t _ ht => getD_in (by simpa using ht) (getD_replicate_false _ _)⟩
  refine wpIn_region_any hm ?_
  have := anyIn_of_head hn hs hc hq (fun i o hi ho k b hgd => by
      have h1 := List.all_eq_true.1 hg o (List.mem_of_getElem? (i := i) (by rw [List.getElem?_take, if_pos hi]; exact ho))
      simp only [hgd, decide_eq_true_eq] at h1
      exact h1) (fun i o hi ho e hee hbd => by
      have h1 := List.all_eq_true.1 he i (List.mem_range.2 hi)
      simp only [ho] at h1
      have h2 := Array.all_eq_true'.1 h1 e hee
      simpa [hbd] using h2) (fun a' w' hw' hl => hl w' hw') _ (Array.replicate l.toArray.size false) _ a { W with drawn := W.drawn + 1 } inv0 (by simp; omega)
      (fun i hi => by rw [getD_replicate_false, getD_replicate_false]) ⟨⟨W.drewN 1, below_drewN (Below.refl _ _) 1⟩, rfl⟩ H
  rw [htl, show n + (l.length - n) = l.toArray.size by simp; omega] at this
  exact this
end
end Go.Proofs.Ytmmlelmkgnhofaa
