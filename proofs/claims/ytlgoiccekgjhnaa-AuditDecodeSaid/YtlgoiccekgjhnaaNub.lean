/-
  A slice of at most k bytes as a value; the walk at an append under a guard. No conditions beyond those that each lemma states.
-/
import Derived.Test.YtlgoiccekgjhnaaEva
import Derived.Test.YtlgoiccekgjhnaaEvo
namespace Go.Proofs.Ytlgoiccekgjhnaa
open Go.ChangeShapes Go.WideShapes Go.ChangeAt Go.RowKit
set_option linter.unusedVariables false
set_option maxHeartbeats 4000000
set_option maxRecDepth 100000

/-- A slice of bytes of at most k bytes, as a value. -/
def NumB (w : World) (v : Value) (k : Nat) : Prop := ∃ A n c l, v = .slice A n c ∧ Bts w w.heap.size A n c l ∧ Small l ∧ n ≤ k
theorem NumB.go {w w' : World} {v : Value} {k : Nat} (h : NumB w v k) (hb : Below w.heap.size w w') : NumB w' v k := by
  obtain ⟨A, n, c, l, e, h1, h2, h3⟩ := h
  exact ⟨A, n, c, l, e, h1.go hb, h2, h3⟩
theorem NumB.put {w w' : World} {l : List Int} {x : Int} {v : Value} {k : Nat} (h : OwnB w' w.heap.size v (l ++ enc x.toNat)) (hs : Small l) (hl : l.length ≤ k) (h0 : 0 ≤ x) (h1 : x < 18446744073709551616) : NumB w' v (k + 10) := by
  obtain ⟨A, n, c, e, hb⟩ := h.shape
  refine ⟨A, n, c, _, e, hb, fun y hy => ?_, ?_⟩
  · rcases List.mem_append.1 hy with hy | hy
    · exact hs y hy
    · exact enc_bytes _ y hy
  · have h2 := hb.len
    have h3 := enc_len10 (n := x.toNat) (by omega)
    rw [List.length_append] at h2
    omega
/-- The walk at an append of a slice to a row of the call's own, under a guard that holds. -/
theorem wpList_appG {P : Program} (w : World) {ops : Array Oper} {rest : List Oper} {o : Oper} {a : Act} {Q : Exit → Act → World → Prop} (hgd : Region.wanted o (yielded ops a.tmps) = true) (s x : Operand) (t : TypeId)
    (ho : o.op = .call { callee := .builtin .append, args := #[s, x], argTypes := #[t, t] })
    {e : TypeId} (he : e = 5) {i : TypeInfo} (ht : P.underlying t = some (.slice e)) (hi : P.info? e = some i) (hz : i.zero = some (.int .u8 0)) (hsz : i.size = 1) (hby : i.bytes = 1)
    {base : Nat} {v : Value} {xs : List Int} (hown : OwnB w base v xs) (hs : a.eval s = v) {B : Nat} {A : Option Addr} {m c : Nat} {ys : List Int} (hy : Bts w B A m c ys) (hx : a.eval x = .slice A m c)
    (hsm : xs.length + m ≤ 4294967296) (hb : base ≤ w.heap.size)
    (h : ∀ v' w', OwnB w' base v' (xs ++ ys) → Below base w w' → wpList P ops Q rest (a.put o.dst v') w') : wpList P ops Q (o :: rest) a w := by
  refine wpList_step fun K hK => ?_
  rw [if_pos hgd]
  obtain ⟨v', w', hrun, h2, h3⟩ := run_appB (P := P) w t o.type e he i ht hi hz hsz hby base v xs hown hy hsm hb
  unfold Oper.wp execOp
  simp only [ho, resolve, invoke, builtin, Sem.run_bind, Sem.run_pure, Result.andThen_ok, List.map_toArray, List.map_cons, List.map_nil, hs, hx, hrun]
  exact hK _ _ (h v' w' h2 h3)
end Go.Proofs.Ytlgoiccekgjhnaa
