/-
  A region that draws its order, within a round of a range over a function, whose operations read and whose callees may make memory: one walk in the order of the text. No conditions beyond those that each theorem states.
-/
import Derived.Test.YtgddlpabgeeflaaCell
import Derived.OrdersIn
namespace Go.Proofs.Ytgddlpabgeeflaa
open Go.RowKit
set_option maxHeartbeats 2000000

section
variable {P : Program} {C : World → Prop} {lp n : Nat}
theorem round_op {o : Oper} {a : Act} {K : Act → Prop} {K' : Act → World → Prop} {Q' : Exit → Act → World → Prop} {w : World} (hnd : ∀ c, o.op ≠ .defer c) (hw : C w) (h : ∀ a w', C w' → K a → K' a w') (hh : o.quiet P a C K) :
    o.wpIn (Fence.wide.inRound lp) n P a w K' Q' := by
  obtain ⟨v, h1, h2⟩ := hh
  have h3 := h1 w hw
  unfold Oper.quietAt at h3
  unfold Oper.wpIn
  refine ⟨fun _ _ => trivial, ?_⟩
  rw [Fence.inRound_round, Oper.semAt_some _ _ _ hnd]
  generalize (execOp a.eval o).run P w = r at *
  cases r with
  | halt x w' => exact h3.elim
  | ok x w' =>
    cases x <;> simp only [Oper.quietUpon] at h3 <;> simp only [Oper.uponIn]
    case value u =>
      obtain ⟨rfl, rfl⟩ := h3
      exact h _ _ hw h2
    case skip =>
      obtain ⟨rfl, rfl⟩ := h3
      exact h _ _ hw h2
    case enter f args =>
      obtain ⟨rfl, hc⟩ := h3
      refine ⟨fun hd => (by cases hd), CallsIn.inRound lp (callsIn_wide.2 (hc.mono fun e w'' he => ?_))⟩
      obtain ⟨rfl, hw''⟩ := he
      exact h _ _ hw'' h2
theorem round_any {ops : Array Oper} {md : Region.Mode} {Q : Act → Prop} {Q' : Exit → Act → World → Prop} (hnd : ∀ (i : Nat) (o : Oper), ops[i]? = some o → ∀ c, o.op ≠ .defer c) (hQ : ∀ a w, C w → Q a → Q' .normal a w) :
    ∀ (fuel : Nat) (listed : Array Bool) (a : Act) (w : World), C w → wpAnyQ P md ops C Q fuel listed a → wpAnyIn (Fence.wide.inRound lp) n P md ops Q' fuel listed a w
  | 0, _, _, _, hw, h => ⟨h.1, hQ _ _ hw h.2⟩
  | fuel + 1, listed, a, w, hw, h => by
    refine ⟨fun h0 => hQ _ _ hw (h.1 h0), fun i hi => ?_⟩
    have h1 := h.2 i hi
    unfold qOp at h1
    unfold wpOpIn
    cases ho : ops[i]? with
    | none =>
      simp only [ho] at h1
      exact round_any hnd hQ fuel _ a w hw h1
    | some o =>
      simp only [ho] at h1 ⊢
      split at h1
      · rename_i hwt
        rw [if_pos hwt]
        exact round_op (hnd i o ho) hw (fun a' w' hw' hk => round_any hnd hQ fuel _ a' w' hw' hk) h1
      · rename_i hwt
        rw [if_neg hwt]
        exact ⟨fun _ _ => trivial, round_any hnd hQ fuel _ _ w hw h1⟩
/-- No operation is a defer statement. -/
def noDefer (l : List Oper) : Bool := l.all fun o => match o.op with
  | .defer _ => false
  | _ => true
theorem round_region {id : Nat} {Q : Exit → Act → World → Prop} {a : Act} {W : World} {l : List Oper} (hm : P.follows .mixedOrders = true) (hB : Region.lexB .any l.toArray = true) (hD : noDefer l = true)
    (h : wpQuiet P l.toArray (fun w' => ∃ m : Later W, w' = m.val) (fun a' => ∀ w', (∃ m : Later W, w' = m.val) → Q .normal a' w') l a) : (Code.region id l.toArray true).wpIn (Fence.wide.inRound lp) n P Q a W := by
  simp only [Region.lexB, Bool.and_eq_true] at hB
  refine wpIn_region_any hm (round_any (C := fun w' => ∃ m : Later W, w' = m.val) (Q := fun a' => ∀ w', (∃ m : Later W, w' = m.val) → Q .normal a' w') (fun i o ho c e => ?_) (fun _ w' hw' h => h w' hw') _ _ _ _ ⟨⟨W.drewN 1, below_drewN (Below.refl _ _) 1⟩, rfl⟩ ?_)
  · have h1 := List.all_eq_true.1 hD o (List.mem_of_getElem? (by simpa using ho))
    simp only [e] at h1
    cases h1
  · have := wpAnyQ_lex (C := fun w' => ∃ m : Later W, w' = m.val) (md := .any) hB.1 l 0 (Array.replicate l.toArray.size false) a (by simp) (by simpa using hB.2) h
    simpa using this
end
end Go.Proofs.Ytgddlpabgeeflaa
