/-
  A Go call with any post as one step of a region that draws its order. No conditions.
-/
import Derived.Test.YtlgoiccekgjhnaaHdt
namespace Go.Proofs.Ytlgoiccekgjhnaa
open Go.ChangeShapes Go.WideShapes Go.RowKit
set_option maxHeartbeats 4000000

theorem step_callX {P : Program} (w : World) {ops : Array Oper} {o : Oper} {a : Act} {K : Act → World → Prop} {Q : Exit → Act → World → Prop} {E : Prop} (hgd : Region.wanted o (yielded ops a.tmps) = true)
    {f : FuncId} {args : Array Value} {fn : Func} {xs : Array Operand} {ts : Array TypeId} {R : Ending → World → Prop} (ho : o.op = .call { callee := .value (.func f), args := xs, argTypes := ts }) (hx : xs.map a.eval = args)
    (hf : P.funcs[f]? = some fn) (hb : (fn.body.isNone || (fn.name == "runtime.NumGoroutine")) = false) (hc : Calls P f args w R) (hK : ∀ e w', R e w' → ∃ v, e = .returned v ∧ K (a.put o.dst v) w') :
    if Region.wanted o (yielded ops a.tmps) = true then Oper.wp P o a w K Q else E := by
  rw [if_pos hgd]
  unfold Oper.wp
  rw [enter_is ho hx hf hb w]
  simp only [Oper.upon]
  exact hc.mono fun e w'' hR => by
    obtain ⟨v, rfl, h⟩ := hK e w'' hR
    exact h
/-- As a step by hand: the result's slot is named, so that the temporaries stay a plain array. -/
theorem held_callX {P : Program} {ops : Array Oper} {Q : Exit → Act → World → Prop} {i d : Nat} {o : Oper} {K : Act → World → Prop} {a : Act} {w : World} (hi : ops[i]? = some o) (hd : o.dst = some d) (hgd : Region.wanted o (yielded ops a.tmps) = true)
    {f : FuncId} {args : Array Value} {fn : Func} {xs : Array Operand} {ts : Array TypeId} {R : Ending → World → Prop} (ho : o.op = .call { callee := .value (.func f), args := xs, argTypes := ts }) (hx : xs.map a.eval = args)
    (hf : P.funcs[f]? = some fn) (hb : (fn.body.isNone || (fn.name == "runtime.NumGoroutine")) = false) (hc : Calls P f args w R) (hK : ∀ e w', R e w' → ∃ v, e = .returned v ∧ K (a.put (some d) v) w') : wpOp P ops Q i K a w := by
  rw [← hd] at hK
  exact held_law hi (step_callX w hgd ho hx hf hb hc hK)
end Go.Proofs.Ytlgoiccekgjhnaa
