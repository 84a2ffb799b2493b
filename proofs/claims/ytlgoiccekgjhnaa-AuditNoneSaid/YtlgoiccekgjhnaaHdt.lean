/-
  A region that draws its order, in two parts: the first n operations come up in whatever order, the rest behind them in one order; single steps by hand of such a region. No conditions beyond those that each lemma states.
-/
import Derived.Test.YtlgoiccekgjhnaaLater
import Derived.Test.YtlgoiccekgjhnaaStg
import Derived.OrdersHeld
import Derived.BigFrame
namespace Go.Proofs.Ytlgoiccekgjhnaa
open Go.RowKit
set_option maxHeartbeats 2000000
set_option maxRecDepth 100000

section
variable {P : Program} {l : List Oper} {Q : Exit → Act → World → Prop} {n : Nat}
/-- N at the normal end, Q elsewhere. -/
def atEnd (N : Act → World → Prop) (Q : Exit → Act → World → Prop) : Exit → Act → World → Prop
  | .normal, a, w => N a w
  | e, a, w => Q e a w
theorem wpOp_atEnd {ops : Array Oper} {N : Act → World → Prop} {K : Act → World → Prop} {i : Nat} {a : Act} {w : World} (h : wpOp P ops (atEnd N Q) i K a w) : wpOp P ops Q i K a w := by
  unfold wpOp at *
  split
  · simpa [*] using h
  · rename_i o ho
    simp only [ho] at h
    split
    · rename_i hw
      simp only [hw, if_true] at h
      rcases h with h | h
      · refine .inl ?_
        unfold Oper.wp at *
        generalize (execOp a.eval o).run P w = r at *
        cases r with
        | ok nx w' =>
          cases nx <;> simp only [Oper.upon] at h ⊢ <;>
            first
              | exact h
              | exact Calls.mono h (fun e w'' he => by cases e <;> exact he)
        | halt x w' => cases x <;> simp only [Oper.upon] at h ⊢ <;> exact h
      · exact .inr h
    · rename_i hw
      simpa [hw] using h
theorem any_headed (hn : n < l.length) (hs : Region.sinkB .any l.toArray n = true) (hc : Region.chainB .any l.toArray n = true)
    (hq : Region.seqB .any l.toArray (l.length - n) n (Array.replicate n true ++ Array.replicate (l.length - n) false) = true)
    (hg : ∀ i o, i < n → l[i]? = some o → ∀ k b, o.guard = some (k, b) → k < n) (he : ∀ i o, i < n → l[i]? = some o → ∀ e ∈ o.after, Region.binds .any e = true → e.on < i) :
    ∀ (f : Nat) (listed heads : Array Bool) (a : Act) (w : World), HeadInv .any l.toArray n listed → heads.size = n → (∀ i, i < n → heads.getD i false = listed.getD i false) →
      wpAny P .any (l.take n).toArray (atEnd (fun a' w' => wpList P l.toArray Q (l.drop n) a' w') Q) f heads a w → wpAny P .any l.toArray Q (f + (l.length - n)) listed a w := by
  have full : ∀ listed : Array Bool, HeadInv .any l.toArray n listed → (∀ j, j < n → listed.getD j false = true) → listed = Array.replicate n true ++ Array.replicate (l.length - n) false := fun listed inv hall => by
    have hsz := inv.size
    simp only [List.size_toArray] at hsz
    refine Array.ext (by simp; omega) fun i h3 h4 => ?_
    rcases Nat.lt_or_ge i n with h5 | h5
    · have := hall i h5
      rw [Array.getElem_append_left (by simpa using h5)]
      simp [h3] at this ⊢
      exact this
    · have := inv.tail i h5 (by simp; omega)
      rw [Array.getElem_append_right (by simpa using h5)]
      simp [h3] at this ⊢
      exact this
  have tail : ∀ (listed : Array Bool) (a : Act) (w : World), HeadInv .any l.toArray n listed → (∀ j, j < n → listed.getD j false = true) → wpList P l.toArray Q (l.drop n) a w → wpAny P .any l.toArray Q (l.length - n) listed a w := fun listed a w inv hall h => by
    have := wpAny_of_seq (md := .any) (Q' := Q) (l.drop n) n listed a w (fun j => by simp [List.getElem?_drop]) (by rw [List.length_drop, full listed inv hall]; exact hq) h
    rwa [List.length_drop] at this
  intro f
  induction f with
  | zero =>
    intro listed heads a w inv hz hsame h
    rcases least_open (listed := listed) (m := n) with hall | ⟨j, hj, k1, k2⟩
    · rw [Nat.zero_add]
      exact tail listed a w inv hall h.2
    · exfalso
      have hr : j ∈ Region.ready .any (l.take n).toArray heads := by
        refine mem_ready.2 ⟨?_, l[j]'(by omega), by simp [hj, Nat.lt_trans hj hn], fun e hee hbd => ?_⟩
        · exact getD_in (by omega) (by rw [hsame j hj]; exact k1)
        · have := he j _ hj (List.getElem?_eq_getElem (by omega)) e hee hbd
          rw [hsame e.on (by omega)]
          exact k2 e.on this
      rw [h.1] at hr
      cases hr
  | succ f ih =>
    intro listed heads a w inv hz hsame h
    rcases least_open (listed := listed) (m := n) with hall | ⟨j, hj, k1, k2⟩
    · have hr : Region.ready .any (l.take n).toArray heads = [] := by
        refine List.eq_nil_iff_forall_not_mem.2 fun i hi => ?_
        obtain ⟨g1, o, g2, _⟩ := mem_ready.1 hi
        have hin : i < n := by
          have := (Array.getElem?_eq_some_iff.1 g2).1
          simp at this
          omega
        have := hall i hin
        rw [← hsame i hin, getD_both g1] at this
        cases this
      refine any_more (f := 0 + (l.length - n)) (by omega) ?_
      rw [Nat.zero_add]
      exact tail listed a w inv hall (h.1 hr)
    · have hun : listed.getD j true = false := getD_in (by have := inv.size; simp at this; omega) k1
      have hjr : j ∈ Region.ready .any l.toArray listed :=
        mem_ready.2 ⟨hun, l[j]'(by omega), by simp [Nat.lt_trans hj hn], fun e hee hbd => k2 e.on (he j _ hj (List.getElem?_eq_getElem (by omega)) e hee hbd)⟩
      rw [show f + 1 + (l.length - n) = (f + (l.length - n)) + 1 by omega]
      refine ⟨fun h0 => (by rw [h0] at hjr; cases hjr), fun i hi => ?_⟩
      have hin : i < n := by
        rcases Nat.lt_or_ge i n with h' | h'
        · exact h'
        · exact absurd hi (tail_waits hs hc (by simpa using hn) inv _ j rfl hj hun i h')
      obtain ⟨g1, o, g2, g3⟩ := mem_ready.1 hi
      have hih : i ∈ Region.ready .any (l.take n).toArray heads := by
        refine mem_ready.2 ⟨?_, o, by rw [head_at hin]; exact g2, fun e hee hb => ?_⟩
        · exact getD_in (by omega) (by rw [hsame i hin]; exact getD_both g1)
        · have := he i o hin (by simpa using g2) e hee hb
          rw [hsame e.on (by omega)]
          exact g3 e hee hb
      refine head_op hin (fun o' ho' => hg i o' hin ho') (wpOp_atEnd (wpOp_mono (fun a' w' h' => ?_) (h.2 i hih)))
      refine ih _ _ a' w' (inv.set hi hin) (by simpa using hz) (fun k hk => ?_) h'
      by_cases hik : i = k
      · subst hik
        have e1 : i < heads.size := by omega
        have e2 : i < listed.size := by have := inv.size; simp at this; omega
        simp [e1, e2]
      · rw [getD_set_ne false hik, getD_set_ne false hik]
        exact hsame k hk
theorem wp_region_headed {id : Nat} {a : Act} {W : World} (n : Nat) (S : World → Prop) (hm : P.follows .mixedOrders = true) (hB : tailB l n = true)
    (h : wpAnyH P .any (l.take n).toArray (atEnd (fun a' w' => wpList P l.toArray Q (l.drop n) a' w') Q) S n (Array.replicate n false) a W.drew) : (Code.region id l.toArray true).wp P Q a W := by
  simp only [tailB, Bool.and_eq_true, decide_eq_true_eq] at hB
  obtain ⟨⟨⟨⟨⟨⟨hn, hx⟩, hs⟩, hc⟩, hq⟩, hg⟩, he⟩ := hB
  have inv0 : HeadInv .any l.toArray n (Array.replicate l.toArray.size false) :=
    ⟨by simp, fun j oj _ hl => (by rw [getD_replicate_false] at hl; cases hl), fun t _ ht => getD_in (by simpa using ht) (getD_replicate_false _ _)⟩
  refine wp_region_any hm ?_
  have := any_headed hn hs hc hq (fun i o hi ho k b hgd => by
      have h1 := List.all_eq_true.1 hg o (List.mem_of_getElem? (i := i) (by rw [List.getElem?_take, if_pos hi]; exact ho))
      simp only [hgd, decide_eq_true_eq] at h1
      exact h1) (fun i o hi ho e hee hbd => by
      have h1 := List.all_eq_true.1 he i (List.mem_range.2 hi)
      simp only [ho] at h1
      have h2 := Array.all_eq_true'.1 h1 e hee
      simpa [hbd] using h2) n (Array.replicate l.toArray.size false) (Array.replicate n false) a W.drew inv0 (by simp)
      (fun i hi => by rw [getD_replicate_false, getD_replicate_false]) (wpAny_of_held _ _ _ _ h)
  rw [show n + (l.length - n) = l.toArray.size by simp; omega] at this
  exact this
end

section
variable {P : Program} {ops : Array Oper} {Q : Exit → Act → World → Prop} {md : Region.Mode} {S : World → Prop}
theorem held_take {i d : Nat} {oi : Oper} {v : Value} {fuel : Nat} {listed : Array Bool} {a : Act} {w : World} (hi : ops[i]? = some oi) (hd : oi.dst = some d)
    (hs : Region.noSelect ops = true) (hf : Region.free md ops listed i = true) (hr : (Region.ready md ops listed).contains i = true)
    (hQ : ∀ c a w, Q (.panic c) (a.put (some d) v) w → Q (.panic c) a w) (hw : Region.wanted oi (yielded ops a.tmps) = true) (hy : ∀ w, S w → (execOp a.eval oi).run P w = .ok (.value v) w) (hS : S w)
    (h : wpAnyH P md ops Q S fuel (listed.setIfInBounds i true) (a.put (some d) v) w) : wpAnyH P md ops Q S (fuel + 1) listed a w :=
  wpAnyH_take hi hs hf hr (by rw [hd]; exact hQ) (.inl ⟨hw, hy⟩) hS (by rw [hd]; exact h)
theorem held_call {i d : Nat} {o : Oper} {f : FuncId} {args : Array Value} {v : Value} {fn : Func} {xs : Array Operand} {ts : Array TypeId} {K : Act → World → Prop} {a : Act} {w : World} {R : World → Prop}
    (hi : ops[i]? = some o) (hd : o.dst = some d) (hw : Region.wanted o (yielded ops a.tmps) = true) (ho : o.op = .call { callee := .value (.func f), args := xs, argTypes := ts }) (hx : xs.map a.eval = args)
    (hf : P.funcs[f]? = some fn) (hb : (fn.body.isNone || (fn.name == "runtime.NumGoroutine")) = false) (hc : Calls P f args w fun e w' => e = .returned v ∧ R w') (hK : ∀ w', R w' → K (a.put (some d) v) w') : wpOp P ops Q i K a w := by
  rw [← hd] at hK
  unfold wpOp
  simp only [hi]
  rw [if_pos hw]
  refine .inl ?_
  unfold Oper.wp
  rw [enter_is ho hx hf hb w]
  simp only [Oper.upon]
  exact hc.mono fun e w'' ⟨he, hR⟩ => by
    subst he
    exact hK w'' hR
theorem held_make {i d : Nat} {o : Oper} {v : Value} {K : Act → World → Prop} {a : Act} {w w' : World} (hi : ops[i]? = some o) (hd : o.dst = some d) (hw : Region.wanted o (yielded ops a.tmps) = true)
    (hr : (execOp a.eval o).run P w = .ok (.value v) w') (hK : K (a.put (some d) v) w') : wpOp P ops Q i K a w := by
  rw [← hd] at hK
  unfold wpOp
  simp only [hi]
  rw [if_pos hw]
  refine .inl ?_
  unfold Oper.wp
  rw [hr]
  simp only [Oper.upon]
  exact hK
theorem held_one {i fuel : Nat} {listed : Array Bool} {a : Act} {w : World} (hr : Region.ready md ops listed = [i])
    (h : wpOp P ops Q i (fun a' w' => S w' ∧ wpAnyH P md ops Q S fuel (listed.setIfInBounds i true) a' w') a w) : wpAnyH P md ops Q S (fuel + 1) listed a w :=
  wpAnyH_all hr (by simp) (fun j hj => by
    obtain rfl := List.mem_singleton.1 hj
    exact h)
theorem held_two {i j fuel : Nat} {listed : Array Bool} {a : Act} {w : World} (hr : Region.ready md ops listed = [i, j])
    (h : wpOp P ops Q i (fun a' w' => S w' ∧ wpAnyH P md ops Q S fuel (listed.setIfInBounds i true) a' w') a w)
    (h' : wpOp P ops Q j (fun a' w' => S w' ∧ wpAnyH P md ops Q S fuel (listed.setIfInBounds j true) a' w') a w) : wpAnyH P md ops Q S (fuel + 1) listed a w :=
  wpAnyH_all hr (by simp) (fun k hk => by
    rcases List.mem_cons.1 hk with rfl | hk
    · exact h
    · obtain rfl := List.mem_singleton.1 hk
      exact h')
theorem run_move_is {ρ : Operand → Value} {o : Oper} {v : Value} (x : Operand) (h : o.op = .move x) (hx : ρ x = v) (w : World) : (execOp ρ o).run P w = .ok (.value v) w := by
  subst hx
  exact BigFrame.run_move x h w
theorem run_pick_no {ρ : Operand → Value} {o : Oper} {v : Value} (c x y : Operand) (h : o.op = .pick c x y) (hc : ρ c = .bool false) (hy : ρ y = v) (w : World) : (execOp ρ o).run P w = .ok (.value v) w := by
  subst hy
  unfold execOp
  simp only [h, hc]
  rfl
end
/-- A step by hand: an operation with a law of its own. -/
theorem held_law {P : Program} {ops : Array Oper} {Q : Exit → Act → World → Prop} {i : Nat} {o : Oper} {K : Act → World → Prop} {a : Act} {w : World} (hi : ops[i]? = some o)
    (h : if Region.wanted o (yielded ops a.tmps) = true then Oper.wp P o a w K Q else K (a.put o.dst undef) w) : wpOp P ops Q i K a w := by
  unfold wpOp
  simp only [hi]
  split at h
  · rename_i hw
    rw [if_pos hw]
    exact .inl h
  · rename_i hw
    rw [if_neg hw]
    exact h
end Go.Proofs.Ytlgoiccekgjhnaa
