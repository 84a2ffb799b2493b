/-
  Contracts of the iterator of a pool of integers and of a nil one: the items come as they are when the iteration begins, whatever the rounds do to the pool. Conditions: at most a million items; the rounds keep what the iterator has made.
-/
import Derived.Test.YtaoojgnkbcoggaaKqx
import Derived.Test.YtaoojgnkbcoggaaPit
namespace Go.Proofs.Ytaoojgnkbcoggaa
open Go.ChangeShapes Go.WideShapes Go.ChangeAt Go.RowKit Go.Shelf
attribute [local go_sem] Oper.semAt_some
set_option linter.unusedVariables false
set_option maxHeartbeats 4000000
set_option maxRecDepth 100000

theorem take_one {α : Type} {A : List α} {j : Nat} {x : α} (h : A[j]? = some x) : A.take (j + 1) = A.take j ++ [x] := by rw [List.take_add_one, h]; rfl
theorem allI_any (q : Option Addr) (w : World) : Calls Try.prog 61 #[.pointer q] w fun e w' => e = .returned (.func (.func 66) #[] #[.pointer (some ⟨w.heap.size, 0, none⟩)]) ∧ w' = w.alloc (.cells #[.pointer q] 102) := by
  have hmf : ∀ (fn : Fn) (first cap : Array Value) (w : World), (Instr.makeFunc fn first cap).run Try.prog w = .ok (.func fn first cap) w := fun _ _ _ _ => rfl
  go_enter Try.func61, Try.ntmps61
  go_wp2
  go_ret
  exact ⟨rfl, rfl⟩
/-- The iterator of a pool. K: what a round keeps; Safe: the blocks that a round leaves as they are. -/
theorem run_pool (d lp Bb p : Nat) (c : Nat → Nat) (k : Nat) (l : List Int) (J Jx : List Int → World → Prop) (W : World) (hn : l.length ≤ 1000000) (hd : 1 ≤ d) (K : World → World → Prop) (Safe : Nat → World → Prop)
    (hKs : ∀ A B g cs t fr, K A B → Safe g A → A.heap[g]? = some (.cells cs t fr) → B.heap[g]? = some (.cells cs t fr) ∧ Safe g B) (hKz : ∀ A B, K A B → A.heap.size ≤ B.heap.size) (hS0 : ∀ W' g, Below W.heap.size W W' → W.heap.size ≤ g → Safe g W')
    (hJ : AbidesFrom W.heap.size J)
    (hY : ∀ pre x W1, J pre W1 → pre.length < l.length → YieldAt Fence.wide (d - 1) Try.prog lp #[.int .i64 x] W1 fun e W' =>
      (e = .returned (.bool true) ∧ J (pre ++ [x]) W' ∧ K W1 W') ∨ (e = .returned (.bool false) ∧ Jx (pre ++ [x]) W'))
    (hc : W.cell? ⟨Bb, 0, none⟩ = some (.pointer (some ⟨p, 0, none⟩))) (hP : PolI W c k p l) (h0 : J [] W) :
    CallsIn Fence.wide d Try.prog 66 #[.func (.yield lp) #[] #[], .pointer (some ⟨Bb, 0, none⟩)] W fun e W' => (∃ v, e = .returned v) ∧
      ((∃ ys, ys = l ∧ J ys W') ∨ (∃ pre, pre <+: l ∧ Jx pre W')) := by
  obtain ⟨v0, h1, h2, _, _⟩ := hP.ex
  obtain ⟨A, n, cc, rfl, hks⟩ := h2.shape
  have hc1 : W.cell? ⟨p, 0, none⟩ = some (.slice A n cc) := cell_of_row W p 0 _ _ _ h1
  have hnl : n = l.length := hks.len.symm
  have H := Lib.hid ((callsIn_wide (n := d - 1)).2 (cloneI_any A n cc l W hks (by omega)))
  have HJ := Lib.hid hJ
  have HY := Lib.hid hY
  have H0 := Lib.hid h0
  have HLN := Lib.hid hnl
  have HKS := Lib.hid hKs
  have HKZ := Lib.hid hKz
  have HS0 := Lib.hid hS0
  clear hks hJ hY h0 hKs hKz hS0 hP h1 h2 hnl
  refine callsIn_of_wp Try.func66 rfl trivial ?_ rfl
  simp only [Try.ntmps66, List.size_toArray, List.length_cons, List.length_nil, Nat.reduceAdd, Nat.reduceSub, Array.replicate_succ, Array.replicate_zero, List.push_toArray, List.append_toArray, List.nil_append, List.cons_append]
  gi_wp2
  refine ⟨trivial, H.out.mono ?_⟩
  rintro e w2 ⟨v, rfl, ho, hb⟩
  obtain ⟨A2, n2, c2, rfl, hx2⟩ := ho.shape
  obtain rfl : n2 = n := by have := hx2.len; have := HLN.out; omega
  have hcap := hx2.cap
  have hsm := hx2.small
  unfold maxLen at hsm
  have HO2 := Lib.hid ho
  have HJ2 : Hid (J [] w2) := Lib.hid (HJ.out _ _ _ none H0.out (below_grown hb none) (fun r e => by cases e))
  have HSF : Hid (∀ g, (Value.slice A2 n2 c2).ownBlock = some g → Safe g w2) := Lib.hid (fun g hg => HS0.out w2 g hb (ho.ge hg).1)
  clear H ho hb hx2 hc hc1 HS0 H0
  gi_wp2
  gi_loopw [13] (fun i wr => ∃ j : Nat, j ≤ n2 ∧ i = .int .i64 j ∧ Hid (J (l.take j) wr ∧ OwnK int1 3 wr W.heap.size (.slice A2 n2 c2) l ∧ ∀ g, (Value.slice A2 n2 c2).ownBlock = some g → Safe g wr)) (fun i _ => n2 - (intOf i).toNat)
  case atStart => exact ⟨0, by omega, rfl, Lib.hid ⟨HJ2.out, HO2.out, HSF.out⟩⟩
  case round =>
    obtain ⟨j, hj, rfl, hh⟩ := hrel
    by_cases hjn : j < n2
    · have HJ0 := Lib.hid hh.out.1
      have HO0 := Lib.hid hh.out.2.1
      have HF0 := Lib.hid hh.out.2.2
      obtain ⟨A', n', c', e', hks⟩ := HO0.out.shape
      cases e'
      obtain ⟨b, o, x, hx, rfl, hb, hc1⟩ := hks.at_ hjn
      have hc2 := hc1 0 _ rfl
      rw [show int1.k = 1 from rfl, Nat.mul_one, Nat.add_zero] at hc2
      have HX := Lib.hid hx
      have hj1 : (j : Int) < (n2 : Int) := by omega
      have hlen : (l.take j).length < l.length := by have := HLN.out; rw [List.length_take]; omega
      clear hx hb hh hc1 hks
      obtain ⟨fn, tmps, assign, body, hy, hR⟩ := HY.out _ x _ HJ0.out hlen
      gi_wp2
      refine hR.mono ?_
      rintro e W3 (⟨rfl, hJ3, hk3⟩ | ⟨rfl, hJx3⟩)
      · have HJ3 := Lib.hid hJ3
        have HO3 := Lib.hid (HO0.out.same (fun g cs hg _ hcs => (HKS.out _ _ g cs _ _ hk3 (HF0.out g hg) hcs).1))
        have HF3 : Hid (∀ g, (Value.slice (some ⟨b, o, none⟩) n2 c2).ownBlock = some g → Safe g W3) := Lib.hid (fun g hg => by
          obtain ⟨cs, hcs⟩ := HO0.out.cells_at hg
          exact (HKS.out _ _ g cs _ _ hk3 (HF0.out g hg) hcs).2)
        clear hJ3 hk3 hR hy
        gi_wp2
        go_roundw
        case rel => exact ⟨j + 1, by omega, by go_num, Lib.hid ⟨by rw [take_one HX.out]; exact HJ3.out, HO3.out, HF3.out⟩⟩
        case measure => simp [intOf]; omega
      · have HJx3 := Lib.hid hJx3
        clear hJx3 hR hy
        gi_wp2
        refine bodyPost_ret (results_none rfl _ _ _) rfl ?_
        exact ⟨⟨_, rfl⟩, .inr ⟨_, by rw [← take_one HX.out]; exact List.take_prefix _ _, HJx3.out⟩⟩
    · obtain rfl : j = n2 := by omega
      have HF : Hid (l.take j = l) := Lib.hid (List.take_of_length_le (by have := HLN.out; omega))
      gi_wp2
      go_end0
      exact ⟨⟨_, rfl⟩, .inl ⟨_, HF.out, hh.out.1⟩⟩
/-- Rounds that keep every block from n₁ on. -/
theorem pool_stops (d n₁ Bb p : Nat) (c : Nat → Nat) (k : Nat) (l : List Int) (w : World) (hd : 1 ≤ d) (hn : l.length ≤ 1000000) (hn₁ : n₁ ≤ w.heap.size)
    (hc : w.cell? ⟨Bb, 0, none⟩ = some (.pointer (some ⟨p, 0, none⟩))) (hP : PolI w c k p l) :
    SeqStopsK Fence.wide d Try.prog 66 #[.pointer (some ⟨Bb, 0, none⟩)] (fun x : Int => #[Value.int .i64 x]) (Kp n₁) (fun ys => ys = l) (fun pre => pre <+: l) l.length w :=
  fun lp J Jx W hW hJ _ hY h0 => run_pool d lp Bb p c k l J Jx W hn hd (Kp n₁) (fun g _ => n₁ ≤ g) (fun A B g cs t fr hk hs hcell => ⟨hk.2 g cs t fr hs hcell, hs⟩) (fun _ _ h => h.1)
    (fun W' g _ hg => by have := hW.size; omega) hJ hY ((hW.cell (p := ⟨Bb, 0, none⟩) (lt_of_some hc)).trans hc) (hP.go hW) h0
/-- Rounds that append to a row in a box. -/
theorem pool_stopsQ (d bx Bb p : Nat) (c : Nat → Nat) (k : Nat) (l : List Int) (w : World) (hd : 1 ≤ d) (hn : l.length ≤ 1000000) (hbx : bx < w.heap.size) (hob : ∀ g, ob bx w = some g → g < w.heap.size)
    (hc : w.cell? ⟨Bb, 0, none⟩ = some (.pointer (some ⟨p, 0, none⟩))) (hP : PolI w c k p l) :
    SeqStopsK Fence.wide d Try.prog 66 #[.pointer (some ⟨Bb, 0, none⟩)] (fun x : Int => #[Value.int .i64 x]) (Kq bx) (fun ys => ys = l) (fun pre => pre <+: l) l.length w :=
  fun lp J Jx W hW hJ _ hY h0 => run_pool d lp Bb p c k l J Jx W hn hd (Kq bx) (fun g A => g ≠ bx ∧ ob bx A ≠ some g)
    (fun A B g cs t fr hk hs hcell => ⟨hk.2.1 g cs t fr hcell hs.1 hs.2, hs.1, fun e => by
      rcases hk.2.2 with h | h
      · rw [h] at e
        exact hs.2 e
      · have := h g e
        have := (Array.getElem?_eq_some_iff.1 hcell).1
        omega⟩) (fun _ _ h => h.1)
    (fun W' g hb hg => ⟨by have := hW.size; omega, fun e => by
      have h1 := hW.size
      have h2 := hb.cell (p := ⟨bx, 0, none⟩) (by simp only; omega)
      have h3 := hW.cell (p := ⟨bx, 0, none⟩) hbx
      have h4 := hob g (by
        unfold ob at e ⊢
        rw [← h3, ← h2]
        exact e)
      omega⟩) hJ hY ((hW.cell (p := ⟨Bb, 0, none⟩) (lt_of_some hc)).trans hc) (hP.go hW) h0
/-- A nil pool's iterator. -/
theorem nilI_stops (d n₁ Bb : Nat) (w : World) (hc : w.cell? ⟨Bb, 0, none⟩ = some (.pointer none)) :
    SeqStopsK Fence.wide d Try.prog 66 #[.pointer (some ⟨Bb, 0, none⟩)] (fun x : Int => #[Value.int .i64 x]) (Kp n₁) (fun ys => ys = []) (fun _ => False) 0 w := fun lp J Jx W hW hJ _ hY h0 => by
  have hc' : W.cell? ⟨Bb, 0, none⟩ = some (.pointer none) := (hW.cell (p := ⟨Bb, 0, none⟩) (lt_of_some hc)).trans hc
  clear hY hJ hW hc
  have H0 := Lib.hid h0
  clear h0
  refine callsIn_of_wp Try.func66 rfl trivial ?_ rfl
  simp only [Try.ntmps66, List.size_toArray, List.length_cons, List.length_nil, Nat.reduceAdd, Nat.reduceSub, Array.replicate_succ, Array.replicate_zero, List.push_toArray, List.append_toArray, List.nil_append, List.cons_append]
  gi_wp2
  refine bodyPost_ret (results_none rfl _ _ _) rfl ?_
  exact ⟨⟨_, rfl⟩, .inl ⟨[], rfl, H0.out⟩⟩
/-- What the list is while the loop runs. -/
def LI (w : World) (pre : List Int) (W : World) : Prop := Below w.heap.size w W ∧ ∃ A' n' c', Bxr int1 67 3 w.heap.size W A' n' c' pre
theorem li_own {w : World} {N : Nat} (hw : w.heap.size ≤ N) : OwnFrom N (LI w) := fun s W W' row h hg hr => by
  obtain ⟨hB, A', n', c', hc⟩ := h
  exact ⟨hB.grown hg hB.size (fun r e => Nat.le_trans hw (hr r e).1), A', n', c', hc.grown hg (fun r e => (hr r e).2)⟩
end Go.Proofs.Ytaoojgnkbcoggaa
