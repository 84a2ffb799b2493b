/-
  Contracts of the allocator's iterator and of the law's list of what it runs over. Conditions: at most a million extents.
-/
import Derived.Test.YtbiamhandhbodaaAlcA
import Derived.Test.YtbiamhandhbodaaCell
namespace Go.Proofs.Ytbiamhandhbodaa
open Go.ChangeShapes Go.WideShapes Go.ChangeAt Go.RowKit Go.Shelf
attribute [local go_sem] Oper.semAt_some
set_option maxHeartbeats 4000000
set_option maxRecDepth 100000

/-- The block of the row that a box holds. -/
def ob (bx : Nat) (W : World) : Option Nat := (W.cell? ⟨bx, 0, none⟩).bind Value.ownBlock
/-- What a round keeps: all cells but the box and its row; and its row is the old one or a new one. -/
def Kq (bx : Nat) (A B : World) : Prop := A.heap.size ≤ B.heap.size ∧ (∀ (g : Nat) (cs : Array Value) (t : TypeId) (fr : Nat × Nat), A.heap[g]? = some (.cells cs t fr) → g ≠ bx → ob bx A ≠ some g → B.heap[g]? = some (.cells cs t fr)) ∧ (ob bx B = ob bx A ∨ ∀ g, ob bx B = some g → A.heap.size ≤ g)
theorem Kq.t {bx : Nat} {A B C : World} (h : Kq bx A B) (k : Kq bx B C) : Kq bx A C := by
  obtain ⟨h1, h2, h3⟩ := h
  obtain ⟨k1, k2, k3⟩ := k
  refine ⟨Nat.le_trans h1 k1, fun g cs t fr hg hne ho => k2 g cs t fr (h2 g cs t fr hg hne ho) hne (fun e => ?_), ?_⟩
  · rcases h3 with h3 | h3
    · exact ho (h3 ▸ e)
    · have := h3 g e
      have := (Array.getElem?_eq_some_iff.1 hg).1
      omega
  · rcases k3 with k3 | k3
    · rw [k3]
      exact h3
    · exact .inr fun g hg => Nat.le_trans h1 (k3 g hg)
theorem Kq.b {bx : Nat} (w : World) (hbx : bx < w.heap.size) (W : World) (l : Nat) (o o' : Obj) (hl : w.heap.size ≤ l) (h : W.heap[l]? = some o) (hc : o.isCells = false) (_hw : o.isWalk = false) : Kq bx W (W.putObj l o') := by
  refine ⟨by simp, fun g cs t fr hcell _ _ => ?_, .inl ?_⟩
  · have hne : g ≠ l := fun e => by
      rw [e, h] at hcell
      cases hcell
      simp [Obj.isCells] at hc
    rw [World.putObj_heap_other hne]
    exact hcell
  · unfold ob
    rw [World.cell?_of_block (w := W) (w' := W.putObj l o') (a := ⟨bx, 0, none⟩) (World.putObj_heap_other (by simp only; omega))]
theorem OwnE.kq {t : TypeId} {bx base : Nat} {A B : World} {v : Value} {l : List (Int × Int)} (h : OwnE t A base v l) (hk : Kq bx A B) (hne : ∀ g, v.ownBlock = some g → g ≠ bx ∧ ob bx A ≠ some g) : OwnE t B base v l := by
  refine ⟨⟨h.1.1, ?_⟩, h.2⟩
  rcases h.1.2 with h0 | ⟨g, cap, cur, rfl, hbg, hg, hnc, hm, hs, ht⟩
  · exact .inl h0
  · exact .inr ⟨g, cap, cur, rfl, hbg, hk.2.1 g _ _ _ hg (hne g rfl).1 (hne g rfl).2, hnc, hm, hs, ht⟩

/-- The iterator of an allocator. -/
theorem run_lst (d : Nat) (lp Bb p bx : Nat) (Aa : Option Addr) (na ca : Nat) (A : List (Int × Int)) (J Jx : List (Int × Int) → World → Prop) (W : World) (hn : na ≤ 1000000) (hd : 1 ≤ d) (hbx : bx < W.heap.size) (hob : ∀ g, ob bx W = some g → g < W.heap.size)
    (hJ : AbidesFrom W.heap.size J)
    (hY : ∀ pre x W1, J pre W1 → pre.length < A.length → YieldAt Fence.wide (d - 1) Try.prog lp #[.agg #[.int .i64 x.1, .int .i64 x.2]] W1 fun e W' =>
      (e = .returned (.bool true) ∧ J (pre ++ [x]) W' ∧ Kq bx W1 W') ∨ (e = .returned (.bool false) ∧ Jx (pre ++ [x]) W'))
    (hc : W.cell? ⟨Bb, 0, none⟩ = some (.pointer (some ⟨p, 0, none⟩))) (hc1 : W.cell? ⟨p, 1, none⟩ = some (.slice Aa na ca)) (hx : Exs W W.heap.size Aa na ca A) (h0 : J [] W) :
    CallsIn Fence.wide d Try.prog 60 #[.func (.yield lp) #[] #[], .pointer (some ⟨Bb, 0, none⟩)] W fun e W' => (∃ v, e = .returned v) ∧
      ((∃ ys, ys = A ∧ J ys W') ∨ (∃ pre, pre <+: A ∧ Jx pre W')) := by
  have H := Lib.hid ((callsIn_wide (n := d - 1)).2 (clone_any Aa na ca A W hx hn))
  have HJ := Lib.hid hJ
  have HY := Lib.hid hY
  have H0 := Lib.hid h0
  have HLN := Lib.hid hx.len
  have HOB := Lib.hid hob
  clear hx hJ hY h0 hob
  refine callsIn_of_wp Try.func60 rfl trivial ?_ rfl
  simp only [Try.ntmps60, List.size_toArray, List.length_cons, List.length_nil, Nat.reduceAdd, Nat.reduceSub, Array.replicate_succ, Array.replicate_zero, List.push_toArray, List.append_toArray, List.nil_append, List.cons_append]
  gi_wp2
  refine ⟨trivial, H.out.mono ?_⟩
  rintro e w2 ⟨v, rfl, ho, hb⟩
  obtain ⟨A2, n2, c2, rfl, hx2⟩ := ho.shape
  obtain rfl : n2 = na := by have := hx2.len; have := HLN.out; omega
  have hcap := hx2.cap
  have hsm := hx2.small
  unfold maxLen at hsm
  have HO2 := Lib.hid ho
  have HJ2 : Hid (J [] w2) := Lib.hid (HJ.out _ _ _ none H0.out (grown_below hb none) (fun r e => by cases e))
  have HS2 := Lib.hid hb.size
  have HOB2 : Hid (∀ g, ob bx w2 = some g → g < W.heap.size) := Lib.hid (fun g hg => HOB.out g (by
    unfold ob at hg ⊢
    rw [hb.cell (p := ⟨bx, 0, none⟩) hbx] at hg
    exact hg))
  clear H ho hb hx2 hc hc1 HOB H0
  gi_wp2
  gi_loopw [13] (fun i wr => ∃ j : Nat, j ≤ n2 ∧ i = .int .i64 j ∧ Hid (J (A.take j) wr ∧ OwnE 39 wr W.heap.size (.slice A2 n2 c2) A ∧ W.heap.size ≤ wr.heap.size ∧ ∀ g, (Value.slice A2 n2 c2).ownBlock = some g → ob bx wr ≠ some g)) (fun i _ => n2 - (intOf i).toNat)
  case atStart => exact ⟨0, by omega, rfl, Lib.hid ⟨HJ2.out, HO2.out, HS2.out, fun g hg e => by have := HO2.out.blk_ge hg; have := HOB2.out g e; omega⟩⟩
  case round =>
    obtain ⟨j, hj, rfl, hh⟩ := hrel
    by_cases hjn : j < n2
    · obtain ⟨b, o, u, v, hu, rfl, hb, hc1, hc2, _⟩ := hh.out.2.1.exs.at_ hjn
      have HU := Lib.hid hu
      have hj1 : (j : Int) < (n2 : Int) := by omega
      have hlen : (A.take j).length < A.length := by have := HLN.out; rw [List.length_take]; omega
      have HJ0 := Lib.hid (HJ.out _ _ _ none hh.out.1 (World.grownBy_alloc wr (.cells #[.int .i64 u, .int .i64 v] 39) none) (fun r e => by cases e))
      have HO0 := Lib.hid (hh.out.2.1.alloc (.cells #[.int .i64 u, .int .i64 v] 39))
      have hz0 := hh.out.2.2.1
      have hwz : wr.heap.size < (wr.alloc (.cells #[.int .i64 u, .int .i64 v] 39)).heap.size := by simp
      have HOB0 : Hid (∀ g, (Value.slice (some ⟨b, o, none⟩) n2 c2).ownBlock = some g → g < wr.heap.size ∧ ob bx (wr.alloc (.cells #[.int .i64 u, .int .i64 v] 39)) ≠ some g) := Lib.hid (fun g hg => ⟨hh.out.2.1.blk_lt hg, fun e => hh.out.2.2.2 g hg (by
        unfold ob at e ⊢
        rw [World.cell?_of_block (w := wr) (w' := wr.alloc _) (a := ⟨bx, 0, none⟩) (Below.heap_alloc wr _ bx (by omega))] at e
        exact e)⟩)
      clear hu hb hh
      gi_wp2
      obtain ⟨fn, tmps, assign, body, hy, hR⟩ := HY.out _ (u, v) _ HJ0.out hlen
      generalize wr.alloc (.cells #[.int .i64 u, .int .i64 v] 39) = w1 at *
      gi_wp2
      refine hR.mono ?_
      rintro e W3 (⟨rfl, hJ3, hk3⟩ | ⟨rfl, hJx3⟩)
      · have HJ3 := Lib.hid hJ3
        have HO3 := Lib.hid (HO0.out.kq hk3 (fun g hg => ⟨by have := HO0.out.blk_ge hg; omega, (HOB0.out g hg).2⟩))
        have HZ3 : Hid (W.heap.size ≤ W3.heap.size) := Lib.hid (by have := hk3.1; omega)
        have HOB3 : Hid (∀ g, (Value.slice (some ⟨b, o, none⟩) n2 c2).ownBlock = some g → ob bx W3 ≠ some g) := Lib.hid (fun g hg e => by
          rcases hk3.2.2 with h | h
          · rw [h] at e
            exact (HOB0.out g hg).2 e
          · have := h g e
            have := (HOB0.out g hg).1
            omega)
        clear hJ3 hk3 hR hy
        gi_wp2
        go_roundw
        case rel => exact ⟨j + 1, by omega, by go_num, Lib.hid ⟨by rw [take_one HU.out]; exact HJ3.out, HO3.out, HZ3.out, HOB3.out⟩⟩
        case measure => simp [intOf]; omega
      · have HJx3 := Lib.hid hJx3
        clear hJx3 hR hy
        gi_wp2
        refine bodyPost_ret (results_none rfl _ _ _) rfl ?_
        exact ⟨⟨_, rfl⟩, .inr ⟨_, by rw [← take_one HU.out]; exact List.take_prefix _ _, HJx3.out⟩⟩
    · obtain rfl : j = n2 := by omega
      have HF : Hid (A.take j = A) := Lib.hid (List.take_of_length_le (by have := HLN.out; omega))
      gi_wp2
      go_end0
      exact ⟨⟨_, rfl⟩, .inl ⟨_, HF.out, hh.out.1⟩⟩

theorem lst_stops (d Bb p bx : Nat) (Aa : Option Addr) (na ca : Nat) (A : List (Int × Int)) (w : World) (hd : 1 ≤ d) (hn : na ≤ 1000000) (hbx : bx < w.heap.size) (hob : ∀ g, ob bx w = some g → g < w.heap.size)
    (hc : w.cell? ⟨Bb, 0, none⟩ = some (.pointer (some ⟨p, 0, none⟩))) (hc1 : w.cell? ⟨p, 1, none⟩ = some (.slice Aa na ca)) (hx : Exs w w.heap.size Aa na ca A) :
    SeqStopsK Fence.wide d Try.prog 60 #[.pointer (some ⟨Bb, 0, none⟩)] (fun x : Int × Int => #[.agg #[Value.int .i64 x.1, Value.int .i64 x.2]]) (Kq bx) (fun ys => ys = A) (fun pre => pre <+: A) A.length w :=
  fun lp J Jx W hW hJ _ hY h0 =>
    run_lst d lp Bb p bx Aa na ca A J Jx W hn hd (Nat.lt_of_lt_of_le hbx hW.size) (fun g hg => Nat.lt_of_lt_of_le (hob g (by
      unfold ob at hg ⊢
      rw [hW.cell (p := ⟨bx, 0, none⟩) hbx] at hg
      exact hg)) hW.size) hJ hY ((hW.cell (p := ⟨Bb, 0, none⟩) (lt_of_some hc)).trans hc) ((hW.cell (p := ⟨p, 1, none⟩) (lt_of_some hc1)).trans hc1) (hx.go hW) h0
/-- A nil allocator's iterator. -/
theorem nil_stops (d Bb bx : Nat) (w : World) (hc : w.cell? ⟨Bb, 0, none⟩ = some (.pointer none)) :
    SeqStopsK Fence.wide d Try.prog 60 #[.pointer (some ⟨Bb, 0, none⟩)] (fun x : Int × Int => #[.agg #[Value.int .i64 x.1, Value.int .i64 x.2]]) (Kq bx) (fun ys => ys = []) (fun _ => False) 0 w := fun lp J Jx W hW hJ _ hY h0 => by
  have hc' : W.cell? ⟨Bb, 0, none⟩ = some (.pointer none) := (hW.cell (p := ⟨Bb, 0, none⟩) (lt_of_some hc)).trans hc
  clear hY hJ hW hc
  have H0 := Lib.hid h0
  clear h0
  refine callsIn_of_wp Try.func60 rfl trivial ?_ rfl
  simp only [Try.ntmps60, List.size_toArray, List.length_cons, List.length_nil, Nat.reduceAdd, Nat.reduceSub, Array.replicate_succ, Array.replicate_zero, List.push_toArray, List.append_toArray, List.nil_append, List.cons_append]
  gi_wp2
  refine bodyPost_ret (results_none rfl _ _ _) rfl ?_
  exact ⟨⟨_, rfl⟩, .inl ⟨[], rfl, H0.out⟩⟩
theorem allocated_any (v : Value) (w : World) (hv : ∃ q, v = .pointer q) : Calls Try.prog 41 #[v] w fun e w' => e = .returned (.func (.func 60) #[] #[.pointer (some ⟨w.heap.size, 0, none⟩)]) ∧ w' = w.alloc (.cells #[v] 24) := by
  obtain ⟨q, rfl⟩ := hv
  have hmf : ∀ (fn : Fn) (first cap : Array Value) (w : World), (Instr.makeFunc fn first cap).run Try.prog w = .ok (.func fn first cap) w := fun _ _ _ _ => rfl
  go_enter Try.func41, Try.ntmps41
  go_wp2
  go_ret
  exact ⟨rfl, rfl⟩

theorem Kq.alloc {bx : Nat} {W : World} (hbx : bx < W.heap.size) (o : Obj) : Kq bx W (W.alloc o) := by
  refine ⟨by simp, fun g cs t fr hcell _ _ => (Below.heap_alloc W o g (Array.getElem?_eq_some_iff.1 hcell).1).trans hcell, .inl ?_⟩
  unfold ob
  rw [World.cell?_of_block (w := W) (w' := W.alloc o) (a := ⟨bx, 0, none⟩) (Below.heap_alloc W o bx hbx)]
theorem KeepsOthers.allo (W : World) (o : Obj) : KeepsOthers W (W.alloc o) := ⟨by simp, fun k o' hk _ => (Below.heap_alloc W o k (Array.getElem?_eq_some_iff.1 hk).1).trans hk⟩
theorem row_cells {W : World} {base : Nat} {t : TypeId} {v : Value} {n : Nat} {xs : List Value} (h : W.ownsRow base t 2 v n xs) {g : Nat} (hg : v.ownBlock = some g) : ∃ cs, W.heap[g]? = some (.cells cs t (0, 0)) := by
  rcases h.2 with ⟨h0, _⟩ | ⟨g', cap, cur, h0, hbg, hg'', _⟩
  · rw [h0] at hg
    cases hg
  · rw [h0] at hg
    cases hg
    exact ⟨_, hg''⟩
theorem row_grown {W W' : World} {base : Nat} {t : TypeId} {v : Value} {n : Nat} {xs : List Value} {r : Option Nat} (h : W.ownsRow base t 2 v n xs) (hg : W.grownBy W' r) (hne : ∀ g, v.ownBlock = some g → r ≠ some g) : W'.ownsRow base t 2 v n xs := by
  refine ⟨h.1, ?_⟩
  rcases h.2 with h0 | ⟨g, cap, cur, rfl, hbg, hg', hnc, hm, hs, ht⟩
  · exact .inl h0
  · exact .inr ⟨g, cap, cur, rfl, hbg, (hg.block g (Array.getElem?_eq_some_iff.1 hg').1 (fun e => hne g rfl e.symm)).trans hg', hnc, hm, hs, ht⟩

theorem wpListIn_appR {F : Fence} {N : Nat} {P : Program} (w : World) {ops : Array Oper} {rest : List Oper} {o : Oper} {a : Act} {Q : Exit → Act → World → Prop} (hgd : o.guard = none) (s x : Operand) (t : TypeId)
    (ho : o.op = .call { callee := .builtin .append, args := #[s, x], argTypes := #[t, t] })
    {e : TypeId} {i : TypeInfo} {z : Value} (ht : P.underlying t = some (.slice e)) (hi : P.info? e = some i) (hz : i.zero = some z) (hzs : z.cells.size = 2) (hsz : i.size = 2) (hby : i.bytes ≤ 64)
    (base : Nat) (v : Value) (k : Nat) (xs : List Value) (hown : w.ownsRow base e 2 v k xs) (hs : a.eval s = v) (ad : Addr) (news : List Value) (hn : news.length = 2) (hx : a.eval x = .slice (some ad) 1 1)
    (hc : ∀ j u, news[j]? = some u → w.cell? (ad.add j) = some u) (h1c : ∀ u ∈ news, u.oneCell' = true) (hsm : k ≤ 1000000) (hb : base ≤ w.heap.size)
    (h : ∀ v' w', w'.ownsRow base e 2 v' (k + 1) (xs ++ news) → w.grownBy w' v.ownBlock → (v'.ownBlock = v.ownBlock ∨ v'.ownBlock = some w.heap.size) → wpListIn F N P ops Q rest (a.put o.dst v') w') : wpListIn F N P ops Q (o :: rest) a w := by
  refine wpListIn_plain hgd fun K hK' => ?_
  obtain ⟨v', w', hrun, h2, h3, _, h5⟩ := run_append_own_at (P := P) w base t o.type e i z 2 i.bytes ht hi hz hsz rfl hzs (by omega) v k xs hown ad 1 1 news (by rw [hn]) hc h1c (by unfold maxLen; omega) (Nat.le_trans (Nat.mul_le_mul (show k + 1 ≤ 1000001 by omega) hby) (by omega)) hb
  unfold Oper.wpIn
  refine ⟨?_, ?_⟩
  · simp [Oper.about, ho, resolve, Target.leads, Sem.run_pure]
  · rw [Oper.semAt_plain F _ _ (by rw [ho]; intro c hc'; cases hc')]
    simp [execOp, ho, resolve, invoke, builtin, hs, hx, hrun, Result.andThen]
    exact hK' _ _ (h v' w' h2 h3 h5)
theorem two_cells (W : World) (x y : Int) : ∀ (j : Nat) (u : Value), [Value.int IntKind.i64 x, Value.int IntKind.i64 y][j]? = some u → (W.alloc (Obj.cells #[Value.int IntKind.i64 x, Value.int IntKind.i64 y] 39)).cell? (Addr.add { block := W.heap.size, off := 0 } j) = some u := fun j u hj => by
  rw [Addr.add_lit, Nat.zero_add, cell_of_row (W.alloc _) W.heap.size j _ _ (0, 0) (heap_alloc_new W _)]
  simpa using hj
theorem two_one (x y : Int) : ∀ u ∈ [Value.int IntKind.i64 x, Value.int IntKind.i64 y], u.oneCell' = true := fun u hu => by
  simp at hu
  rcases hu with rfl | rfl <;> rfl
theorem row_slice {W : World} {base : Nat} {t : TypeId} {v : Value} {n : Nat} {xs : List Value} (h : W.ownsRow base t 2 v n xs) : ∃ A n c, v = .slice A n c := by
  rcases h.2 with ⟨h0, _⟩ | ⟨g, cap, cur, h0, _⟩
  · exact ⟨_, _, _, h0⟩
  · exact ⟨_, _, _, h0⟩
theorem Cel.grownRow {W w3 : World} {b : Nat} {t te : TypeId} {u v : Value} {n : Nat} {xs : List Value} {o : Obj} (h : Cel W b t u) (ho : W.ownsRow (b + 1) te 2 v n xs) (hg : (W.alloc o).grownBy w3 v.ownBlock) : Cel w3 b t u :=
  (hg.block b (by have := (Array.getElem?_eq_some_iff.1 h).1; simp; omega) (fun e => by have := (ho.lt b e.symm).1; omega)).trans ((Below.heap_alloc W o b (Array.getElem?_eq_some_iff.1 h).1).trans h)
theorem keeps_row {W w3 : World} {b : Nat} {te : TypeId} {v : Value} {n : Nat} {xs : List Value} {o : Obj} (ho : W.ownsRow b te 2 v n xs) (hg : (W.alloc o).grownBy w3 v.ownBlock) : KeepsOthers (W.alloc o) w3 :=
  ⟨hg.size, fun k o' hk hc => (hg.block k (Array.getElem?_eq_some_iff.1 hk).1 (fun e => by
    obtain ⟨cs, hcs⟩ := row_cells ho e.symm
    rw [Below.heap_alloc W o k (ho.lt k e.symm).2, hcs] at hk
    cases hk
    simp [Obj.isCells] at hc)).trans hk⟩
/-- What the list is while the loop runs. -/
def LI (w : World) (bx : Nat) (pre : List (Int × Int)) (W : World) : Prop := Below w.heap.size w W ∧ ∃ A' n' c', Cel W bx 29 (.slice A' n' c') ∧ W.ownsRow (bx + 1) 39 2 (.slice A' n' c') pre.length (ev pre)
theorem li_own {w : World} {bx N : Nat} (hw : w.heap.size ≤ N) : OwnFrom N (LI w bx) := fun s W W' row h hg hr => by
  obtain ⟨hB, A', n', c', hc, ho⟩ := h
  refine ⟨hB.grown hg hB.size (fun r e => Nat.le_trans hw (hr r e).1), A', n', c', ?_, row_grown ho hg (fun g hg' e => ?_)⟩
  · refine (hg.block bx (Array.getElem?_eq_some_iff.1 hc).1 (fun e => ?_)).trans hc
    obtain ⟨o, ho1, ho2⟩ := (hr bx e.symm).2
    unfold Cel at hc
    rw [hc] at ho1
    cases ho1
    simp [Obj.isCells] at ho2
  · obtain ⟨o, ho1, ho2⟩ := (hr g e).2
    obtain ⟨cs, hcs⟩ := row_cells ho hg'
    rw [hcs] at ho1
    cases ho1
    simp [Obj.isCells] at ho2
/-- The temporaries of a round. -/
def LA (w : World) (q : Option Addr) (x : Int × Int) (a : Act) (W : World) : Prop := ∃ be, a = { tmps := #[Value.pointer q, undef, Value.slice none 0 0, Value.pointer (some { block := w.heap.size, off := 0 }),
          Value.pointer (some { block := be, off := 0 }), Value.pointer q,
          Value.func (Fn.func 60) #[] #[Value.pointer (some { block := w.heap.size + 1, off := 0 })],
          Value.agg #[Value.int IntKind.i64 x.fst, Value.int IntKind.i64 x.snd], undef, undef, undef, undef, undef], defers := [] } ∧ Box W be x.1 x.2
theorem la_own {w : World} {q : Option Addr} {N : Nat} (x : Int × Int) (a : Act) : OwnFrom N (fun (_ : Unit) W => LA w q x a W) := fun s W W' row h hg hr => by
  obtain ⟨be, ha, hb⟩ := h
  refine ⟨be, ha, (hg.block be hb.lt (fun e => ?_)).trans hb⟩
  obtain ⟨o, ho1, ho2⟩ := (hr be e.symm).2
  unfold Box at hb
  rw [hb] at ho1
  cases ho1
  simp [Obj.isCells] at ho2
theorem listed_of (v : Value) (A : List (Int × Int)) (Sp : List (Int × Int) → Prop) (w : World) (hv : ∃ q, v = .pointer q) (hA : A.length ≤ 1000000) (hft : Fits A)
    (hseq : ∀ W : World, W = (w.alloc (.cells #[.slice none 0 0] 29)).alloc (.cells #[v] 24) → SeqStopsK Fence.wide 5 Try.prog 60 #[.pointer (some ⟨w.heap.size + 1, 0, none⟩)] (fun x : Int × Int => #[.agg #[Value.int .i64 x.1, Value.int .i64 x.2]]) (Kq w.heap.size) (fun ys => ys = A) Sp A.length W) :
    Calls Try.prog 19 #[v] w (MadeE w A) := by
  obtain ⟨i0, hi0, hz0, hz1, hz2⟩ := info_parts infoE
  have HSQ := Lib.hid (hseq _ rfl)
  have HFT := Lib.hid hft
  have hb2 : Below w.heap.size w ((w.alloc (.cells #[.slice none 0 0] 29)).alloc (.cells #[v] 24)) := ((Below.refl _ _).alloc (Nat.le_refl _) _).alloc (by simp) _
  have HB2 := Lib.hid hb2
  have HL2 : Hid (LI w w.heap.size [] ((w.alloc (.cells #[.slice none 0 0] 29)).alloc (.cells #[v] 24))) := Lib.hid ⟨hb2, none, 0, 0, (Cel.new (w := w) (t := 29) (v := .slice none 0 0)).go ((Below.refl _ _).alloc (Nat.le_refl _) _), World.ownsRow_nil _ _ _ _⟩
  have hz2' : ((w.alloc (.cells #[.slice none 0 0] 29)).alloc (.cells #[v] 24)).heap.size = w.heap.size + 2 := by simp
  have HAL := Lib.hid (allocated_any v (w.alloc (.cells #[.slice none 0 0] 29)) hv)
  rw [show (w.alloc (.cells #[.slice none 0 0] 29)).heap.size = w.heap.size + 1 by simp] at HAL
  obtain ⟨q, rfl⟩ := hv
  clear hseq hb2 hft
  refine (callsIn_wide (n := 6)).1 ?_
  refine callsIn_of_wp_marks Try.func19 rfl trivial ?_ rfl
  refine wpIn_wide.2 ?_
  simp only [Try.ntmps19, List.size_toArray, List.length_cons, List.length_nil, Nat.reduceAdd, Nat.reduceSub, Array.replicate_succ, Array.replicate_zero, List.push_toArray, List.append_toArray, List.nil_append, List.cons_append]
  go_wp2_with fail
  refine HAL.out.mono ?_
  rintro e w2 ⟨rfl, hw2⟩
  rw [← hw2] at HSQ HB2 HL2 hz2'
  clear hw2 HAL
  go_wp2
  refine (wpIn_wide (n := 6)).1 ?_
  refine wpIn_rangeFunc_ownH rfl (by omega) (gf := 60) (lb := #[.pointer (some ⟨w.heap.size + 1, 0, none⟩)]) rfl trivial (enters_of Try.func60 (by kernel_rfl) rfl) HSQ.out Kq.t (Kq.b w2 (by omega)) (Below.refl _ _) (fun _ => rfl)
    (LI w w.heap.size)
    (fun _ (_ : List (Int × Int)) _ => False)
    (li_own HB2.out.size)
    (fun _ => ownFrom_pure _ _)
    HL2.out (LA w q) (la_own) ?assign ?body ?done ?stop
  case assign =>
    rintro l pre x W K ⟨hB, A', n', c', hc, ho⟩ hK
    have HK := Lib.hid hK
    have H1 : Hid (w.heap.size < W.heap.size) := Lib.hid (Array.getElem?_eq_some_iff.1 hc).1
    have H2 : Hid (LI w w.heap.size pre (W.alloc (.cells #[.int .i64 x.1, .int .i64 x.2] 39))) := Lib.hid ⟨hB.alloc hB.size _, A', n', c', hc.go ((Below.refl _ _).alloc (Nat.le_refl _) _), World.ownsRow.alloc ho _⟩
    clear hK hB hc ho
    gi_wp2
    exact HK.out _ _ ((KeepsOthers.allo _ _).from _) (Kq.alloc H1.out _) H2.out ⟨W.heap.size, rfl, Box.new⟩
  case body =>
    rintro l pre x a' W hl _ ⟨hB, A', n', c', hc, ho⟩ ⟨be, rfl, hbe⟩ hlen
    have e0 := hc.cell
    have e1 := hbe.cell0
    have e2 := hbe.cell1
    have HB := Lib.hid hB
    have HC := Lib.hid hc
    have HO := Lib.hid ho
    have hbw := hB.size
    have hbx : w.heap.size < W.heap.size := (Array.getElem?_eq_some_iff.1 hc).1
    have hpl : pre.length ≤ 1000000 := by omega
    have HOB : Hid (ob w.heap.size W = (Value.slice A' n' c').ownBlock) := Lib.hid (by unfold ob; rw [e0]; rfl)
    clear hB hc ho hbe hlen
    gi_wp2_with (gi_at_builtin; go_must (refine wpListIn_appR _ rfl (.tmp 8) (.tmp 10) 29 rfl Try.underlying29 hi0 hz0 rfl hz1 (by omega) (w.heap.size + 1) (.slice A' n' c') _ _ (World.ownsRow.alloc HO.out _) rfl ⟨W.heap.size, 0, none⟩ [.int .i64 x.1, .int .i64 x.2] rfl rfl (two_cells W x.1 x.2) (two_one x.1 x.2) hpl (by simp; omega) ?_); intro v3 w3 ho3 hg3 hn3; obtain ⟨A3, n3, c3, rfl⟩ := row_slice ho3; have HR3 := Lib.hid ho3; have HG3 := Lib.hid hg3; have HN3 := Lib.hid hn3; have HC3 := Lib.hid (HC.out.grownRow HO.out hg3); have e3 := HC3.out.cell; have f3 := HC3.out.fr; clear ho3 hg3 hn3)
    refine ⟨(((KeepsOthers.allo W _).trans (keeps_row HO.out HG3.out)).trans (KeepsOthers.setCell _ _ _)).from _, ?_, ?_⟩
    · have hob : ob w.heap.size (w3.setCell ⟨w.heap.size, 0, none⟩ (.slice A3 n3 c3)) = (Value.slice A3 n3 c3).ownBlock := by
        unfold ob
        rw [(HC3.out.set (.slice A3 n3 c3)).cell]
        rfl
      refine ⟨?_, fun g cs t fr hcell hne hob' => ?_, ?_⟩
      · have := HG3.out.size
        simp [World.setCell] at this ⊢
        omega
      · rw [Below.heap_setCell _ _ _ _ hne, HG3.out.block g (by have := (Array.getElem?_eq_some_iff.1 hcell).1; simp; omega) (fun e => hob' (by rw [HOB.out, e])), Below.heap_alloc W _ g (Array.getElem?_eq_some_iff.1 hcell).1]
        exact hcell
      · rw [hob, HOB.out]
        rcases HN3.out with h | h
        · exact .inl h
        · refine .inr fun g hg => ?_
          rw [h] at hg
          cases hg
          simp
    · refine ⟨((HB.out.alloc hbw _).grown HG3.out (by simp; omega) (fun g e => by have := (HO.out.lt g e).1; omega)).setCell (p := ⟨w.heap.size, 0, none⟩) (Nat.le_refl _) _, A3, n3, c3, HC3.out.set _, ?_⟩
      have := ownsRow_setCell_below HR3.out (a := ⟨w.heap.size, 0, none⟩) (by simp) (.slice A3 n3 c3)
      rw [List.length_append, ← ev_app]
      exact this
  case stop =>
    rintro D c pre W _ hp hb _
    exact hb.elim
  case done =>
    rintro D ys W hD rfl ⟨hB, A', n', c', hc, ho⟩ hK
    have e0 := hc.cell
    have HKW := Lib.hid (show Df W D from hK)
    have HDw := Lib.hid (Nat.le_trans HB2.out.size hD)
    have HB := Lib.hid hB
    have HO := Lib.hid ho
    have HC := Lib.hid hc
    clear hK hD hB hc ho
    dsimp only
    go_wp2
    refine leave_one HKW.out ?_
    have HBs := Lib.hid (HKW.out.below HDw.out HB.out (.deferred none))
    have HOs : Hid (OwnE 39 (W.putObj D (.deferred none)) w.heap.size (.slice A' n' c') ys) := Lib.hid ⟨World.ownsRow.mono (row_grown HO.out (grownBy_putObj' W D (.deferred none)) (fun g hg e => by
      cases e
      obtain ⟨cs, hcs⟩ := row_cells HO.out hg
      have := HKW.out
      unfold Df at this
      rw [hcs] at this
      cases this)) (by omega), HFT.out⟩
    refine ⟨.slice A' n' c', ?_, _, rfl, HOs.out, HBs.out⟩
    simp [results, Try.f19, go_sem]
theorem listed_any (c : Nat → Nat) (k p : Nat) (F A : List (Int × Int)) (w : World) (h : Alc w c k p F A) (hA : A.length ≤ 1000000) :
    Calls Try.prog 19 #[.pointer (some ⟨p, 0, none⟩)] w (MadeE w A) := by
  obtain ⟨vf, va, _, _, hva, _⟩ := h.ex
  refine listed_of _ A (fun pre => pre <+: A) w ⟨_, rfl⟩ hA hva.2 ?_
  rintro W rfl
  have hb1 : Below w.heap.size w (w.alloc (.cells #[.slice none 0 0] 29)) := (Below.refl _ _).alloc (Nat.le_refl _) _
  have hb2 : Below w.heap.size w ((w.alloc (.cells #[.slice none 0 0] 29)).alloc (.cells #[.pointer (some ⟨p, 0, none⟩)] 24)) := hb1.alloc hb1.size _
  obtain ⟨Af, nf, cf, Aa, na, ca, hcf, hca, hxf, hxa⟩ := (h.go hb2).open_
  have e : (w.alloc (.cells #[.slice none 0 0] 29)).heap.size = w.heap.size + 1 := by simp
  have hc0 := cell_alloc (w := w.alloc (.cells #[.slice none 0 0] 29)) (cs := #[.pointer (some ⟨p, 0, none⟩)]) (t := 24) (i := 0) rfl
  rw [e] at hc0
  refine lst_stops 5 (w.heap.size + 1) p w.heap.size Aa na ca A _ (by omega) (by have := hxa.len; omega) (by simp; omega) (fun g hg => ?_) hc0 hca hxa
  unfold ob at hg
  rw [cell_under (cell_alloc rfl) _] at hg
  cases hg
theorem listed_nil (w : World) : Calls Try.prog 19 #[.pointer none] w (MadeE w []) := by
  refine listed_of _ [] (fun _ => False) w ⟨_, rfl⟩ (by simp) Fits.nil ?_
  rintro W rfl
  have e : (w.alloc (.cells #[.slice none 0 0] 29)).heap.size = w.heap.size + 1 := by simp
  have hc0 := cell_alloc (w := w.alloc (.cells #[.slice none 0 0] 29)) (cs := #[.pointer none]) (t := 24) (i := 0) rfl
  rw [e] at hc0
  exact nil_stops 5 (w.heap.size + 1) w.heap.size _ hc0
end Go.Proofs.Ytbiamhandhbodaa
