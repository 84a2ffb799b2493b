/-
  Contracts of the iterator of a ledger and of the law's list of what it runs over. Conditions: at most a hundred thousand borrows.
-/
import Derived.Test.YtmmlelmkgnhofaaLda
import Derived.Test.YtmmlelmkgnhofaaKqx
namespace Go.Proofs.Ytmmlelmkgnhofaa
open Go.ChangeShapes Go.WideShapes Go.ChangeAt Go.RowKit Go.Shelf
attribute [local go_sem] Oper.semAt_some
set_option linter.unusedVariables false
set_option linter.unusedSimpArgs false
set_option maxHeartbeats 4000000
set_option maxRecDepth 100000

theorem take_one {α : Type} {A : List α} {j : Nat} {x : α} (h : A[j]? = some x) : A.take (j + 1) = A.take j ++ [x] := by rw [List.take_add_one, h]; rfl
theorem allL_any (q : Option Addr) (w : World) : Calls Try.prog 41 #[.pointer q] w fun e w' => e = .returned (.func (.func 49) #[] #[.pointer (some ⟨w.heap.size, 0, none⟩)]) ∧ w' = w.alloc (.cells #[.pointer q] 23) := by
  have hmf : ∀ (fn : Fn) (first cap : Array Value) (w : World), (Instr.makeFunc fn first cap).run Try.prog w = .ok (.func fn first cap) w := fun _ _ _ _ => rfl
  go_enter Try.func41, Try.ntmps41
  go_wp2
  go_ret
  exact ⟨rfl, rfl⟩
/-- A box with a borrow. -/
def BoB (w : World) (b : Nat) (x : Bo) : Prop := w.heap[b]? = some (.cells #[.int .i64 x.o, .int .i64 x.h, .int .i64 x.m, .int .i64 x.c] 47 (0, 0))
theorem BoB.new {w : World} {x : Bo} : BoB (w.alloc (.cells #[.int .i64 x.o, .int .i64 x.h, .int .i64 x.m, .int .i64 x.c] 47)) w.heap.size x := heap_alloc_new w _
theorem BoB.cells {w : World} {b : Nat} {x : Bo} (h : BoB w b x) : w.cell? ⟨b, 0, none⟩ = some (.int .i64 x.o) ∧ w.cell? ⟨b, 1, none⟩ = some (.int .i64 x.h) ∧ w.cell? ⟨b, 2, none⟩ = some (.int .i64 x.m) ∧ w.cell? ⟨b, 3, none⟩ = some (.int .i64 x.c) :=
  ⟨cell_of_row w b 0 _ _ _ h, cell_of_row w b 1 _ _ _ h, cell_of_row w b 2 _ _ _ h, cell_of_row w b 3 _ _ _ h⟩
/-- The iterator of a ledger. K: what a round keeps; Safe: the blocks that a round leaves as they are. -/
theorem run_led (d lp Bb : Nat) (q : Option Addr) (L : List Bo) (J Jx : List Bo → World → Prop) (W : World) (hn : L.length ≤ 1000000) (hd : 1 ≤ d) (K : World → World → Prop) (Safe : Nat → World → Prop)
    (hKs : ∀ A B g cs t fr, K A B → Safe g A → A.heap[g]? = some (.cells cs t fr) → B.heap[g]? = some (.cells cs t fr) ∧ Safe g B) (hS0 : ∀ W' g, Below W.heap.size W W' → W.heap.size ≤ g → Safe g W') (hSb : ∀ A B g, Below A.heap.size A B → g < A.heap.size → Safe g A → Safe g B)
    (hJ : AbidesFrom W.heap.size J)
    (hY : ∀ pre x W1, J pre W1 → pre.length < L.length → YieldAt Fence.wide (d - 1) Try.prog lp #[boA x] W1 fun e W' =>
      (e = .returned (.bool true) ∧ J (pre ++ [x]) W' ∧ K W1 W') ∨ (e = .returned (.bool false) ∧ Jx (pre ++ [x]) W'))
    (hc : W.cell? ⟨Bb, 0, none⟩ = some (.pointer q)) (hl : Calls Try.prog 50 #[.pointer q] W (MkB W L)) (h0 : J [] W) :
    CallsIn Fence.wide d Try.prog 49 #[.func (.yield lp) #[] #[], .pointer (some ⟨Bb, 0, none⟩)] W fun e W' => (∃ v, e = .returned v) ∧
      ((∃ ys, ys = L ∧ J ys W') ∨ (∃ pre, pre <+: L ∧ Jx pre W')) := by
  have H := Lib.hid ((callsIn_wide (n := d - 1)).2 hl)
  have HJ := Lib.hid hJ
  have HY := Lib.hid hY
  have H0 := Lib.hid h0
  have HKS := Lib.hid hKs
  have HS0 := Lib.hid hS0
  have HSB := Lib.hid hSb
  unfold MkB at H
  clear hJ hY h0 hKs hS0 hSb hl
  refine callsIn_of_wp Try.func49 rfl trivial ?_ rfl
  simp only [Try.ntmps49, List.size_toArray, List.length_cons, List.length_nil, Nat.reduceAdd, Nat.reduceSub, Array.replicate_succ, Array.replicate_zero, List.push_toArray, List.append_toArray, List.nil_append, List.cons_append]
  gi_wp2
  refine ⟨trivial, H.out.mono ?_⟩
  rintro e w2 ⟨v, rfl, ho, hb⟩
  obtain ⟨A2, n2, c2, rfl, hx2⟩ := ho.shape
  have HLN := Lib.hid hx2.len
  have hn2 : n2 ≤ 1000000 := by have := HLN.out; omega
  have hcap := hx2.cap
  have hsm := hx2.small
  unfold maxLen at hsm
  have HO2 := Lib.hid ho
  have HJ2 : Hid (J [] w2) := Lib.hid (HJ.out _ _ _ none H0.out (below_grown hb none) (fun r e => by cases e))
  have HSF : Hid (∀ g, (Value.slice A2 n2 c2).ownBlock = some g → Safe g w2) := Lib.hid (fun g hg => HS0.out w2 g hb (ho.ge hg).1)
  clear H ho hb hx2 hc HS0 H0 hn
  gi_wp2
  gi_loopw [8] (fun i wr => ∃ j : Nat, j ≤ n2 ∧ i = .int .i64 j ∧ Hid (J (L.take j) wr ∧ OwnK bo4 47 wr W.heap.size (.slice A2 n2 c2) L ∧ ∀ g, (Value.slice A2 n2 c2).ownBlock = some g → Safe g wr)) (fun i _ => n2 - (intOf i).toNat)
  case atStart => exact ⟨0, by omega, rfl, Lib.hid ⟨HJ2.out, HO2.out, HSF.out⟩⟩
  case round =>
    obtain ⟨j, hj, rfl, hh⟩ := hrel
    by_cases hjn : j < n2
    · have HJ0 := Lib.hid hh.out.1
      have HO0 := Lib.hid hh.out.2.1
      have HF0 := Lib.hid hh.out.2.2
      obtain ⟨A', n', c', e', hks⟩ := HO0.out.shape
      cases e'
      obtain ⟨b, o, x, hx, rfl, hb, g0, g1, g2, g3⟩ := hks.bo hjn
      have HX := Lib.hid hx
      have hj1 : (j : Int) < (n2 : Int) := by omega
      have HTL : Hid ((L.take j).length < L.length) := Lib.hid (by have := HLN.out; rw [List.length_take]; omega)
      have HJ1 := Lib.hid (HJ.out _ _ _ none HJ0.out (World.grownBy_alloc wr (.cells #[.int .i64 x.o, .int .i64 x.h, .int .i64 x.m, .int .i64 x.c] 47) none) (fun r e => by cases e))
      have HO1 := Lib.hid (HO0.out.alloc (.cells #[.int .i64 x.o, .int .i64 x.h, .int .i64 x.m, .int .i64 x.c] 47))
      have HF1 : Hid (∀ g, (Value.slice (some ⟨b, o, none⟩) n2 c2).ownBlock = some g → Safe g (wr.alloc (.cells #[.int .i64 x.o, .int .i64 x.h, .int .i64 x.m, .int .i64 x.c] 47))) := Lib.hid (fun g hg => HSB.out _ _ g ((Below.refl _ _).alloc (Nat.le_refl _) _) (HO0.out.ge hg).2 (HF0.out g hg))
      clear hx hb hh hks HJ0 HO0 HF0
      obtain ⟨fn, tmps, assign, body, hy, hR⟩ := HY.out _ x _ HJ1.out HTL.out
      unfold boA at hy
      gi_wp2
      refine hR.mono ?_
      rintro e W3 (⟨rfl, hJ3, hk3⟩ | ⟨rfl, hJx3⟩)
      · have HJ3 := Lib.hid hJ3
        have HO3 := Lib.hid (HO1.out.same (fun g cs hg _ hcs => (HKS.out _ _ g cs _ _ hk3 (HF1.out g hg) hcs).1))
        have HF3 : Hid (∀ g, (Value.slice (some ⟨b, o, none⟩) n2 c2).ownBlock = some g → Safe g W3) := Lib.hid (fun g hg => by
          obtain ⟨cs, hcs⟩ := HO1.out.cells_at hg
          exact (HKS.out _ _ g cs _ _ hk3 (HF1.out g hg) hcs).2)
        clear hJ3 hk3 hR hy HJ1 HO1 HF1 g0 g1 g2 g3
        gi_wp2
        go_roundw
        case rel => exact ⟨j + 1, by omega, by go_num, Lib.hid ⟨by rw [take_one HX.out]; exact HJ3.out, HO3.out, HF3.out⟩⟩
        case measure => simp [intOf]; omega
      · have HJx3 := Lib.hid hJx3
        clear hJx3 hR hy HJ1 HO1 HF1 g0 g1 g2 g3
        gi_wp2
        refine bodyPost_ret (results_none rfl _ _ _) rfl ?_
        exact ⟨⟨_, rfl⟩, .inr ⟨_, by rw [← take_one HX.out]; exact List.take_prefix _ _, HJx3.out⟩⟩
    · obtain rfl : j = n2 := by omega
      have HF : Hid (L.take j = L) := Lib.hid (List.take_of_length_le (by have := HLN.out; omega))
      gi_wp2
      go_end0
      exact ⟨⟨_, rfl⟩, .inl ⟨_, HF.out, hh.out.1⟩⟩
/-- Rounds that append to a row in a box. -/
theorem led_stops (d bx Bb : Nat) (q : Option Addr) (L : List Bo) (w : World) (hd : 1 ≤ d) (hn : L.length ≤ 1000000) (hbx : bx < w.heap.size) (hob : ∀ g, ob bx w = some g → g < w.heap.size)
    (hc : w.cell? ⟨Bb, 0, none⟩ = some (.pointer q)) (hl : ∀ W, Below w.heap.size w W → Calls Try.prog 50 #[.pointer q] W (MkB W L)) :
    SeqStopsK Fence.wide d Try.prog 49 #[.pointer (some ⟨Bb, 0, none⟩)] (fun x : Bo => #[boA x]) (Kq bx) (fun ys => ys = L) (fun pre => pre <+: L) L.length w :=
  fun lp J Jx W hW hJ _ hY h0 => run_led d lp Bb q L J Jx W hn hd (Kq bx) (fun g A => g ≠ bx ∧ ob bx A ≠ some g ∧ bx < A.heap.size)
    (fun A B g cs t fr hk hs hcell => ⟨hk.2.1 g cs t fr hcell hs.1 hs.2.1, hs.1, fun e => by
      rcases hk.2.2 with h | h
      · rw [h] at e
        exact hs.2.1 e
      · have := h g e
        have := (Array.getElem?_eq_some_iff.1 hcell).1
        omega, Nat.lt_of_lt_of_le hs.2.2 hk.1⟩)
    (fun W' g hb hg => ⟨by have := hW.size; omega, fun e => by
      have h1 := hW.size
      have h2 := hb.cell (p := ⟨bx, 0, none⟩) (by simp only; omega)
      have h3 := hW.cell (p := ⟨bx, 0, none⟩) hbx
      have h4 := hob g (by
        unfold ob at e ⊢
        rw [← h3, ← h2]
        exact e)
      omega, by have := hW.size; have := hb.size; omega⟩)
    (fun A B g hb hg hs => ⟨hs.1, fun e => hs.2.1 (by
      unfold ob at e ⊢
      rw [← hb.cell (p := ⟨bx, 0, none⟩) hs.2.2]
      exact e), Nat.lt_of_lt_of_le hs.2.2 hb.size⟩)
    hJ hY ((hW.cell (p := ⟨Bb, 0, none⟩) (lt_of_some hc)).trans hc) (hl W hW) h0
/-- What the list is while the loop runs. -/
def LI (w : World) (pre : List Bo) (W : World) : Prop := Below w.heap.size w W ∧ ∃ A' n' c', Bxr bo4 26 47 w.heap.size W A' n' c' pre
theorem li_own {w : World} {N : Nat} (hw : w.heap.size ≤ N) : OwnFrom N (LI w) := fun s W W' row h hg hr => by
  obtain ⟨hB, A', n', c', hc⟩ := h
  exact ⟨hB.grown hg hB.size (fun r e => Nat.le_trans hw (hr r e).1), A', n', c', hc.grown hg (fun r e => (hr r e).2)⟩
/-- The temporaries of a round. -/
def LA (w : World) (q : Option Addr) (x : Bo) (a : Act) (W : World) : Prop := ∃ be, a = Act.mk (#[Value.pointer q, undef, Value.slice none 0 0, Value.pointer (some { block := w.heap.size, off := 0 }),
          Value.pointer (some { block := be, off := 0 }), Value.pointer q,
          Value.func (Fn.func 49) #[] #[Value.pointer (some { block := w.heap.size + 1, off := 0 })],
          boA x, undef, undef, undef, undef, undef]) [] ∧ BoB W be x
theorem la_own {w : World} {q : Option Addr} {N : Nat} (x : Bo) (a : Act) : OwnFrom N (fun (_ : Unit) W => LA w q x a W) := fun s W W' row h hg hr => by
  obtain ⟨be, ha, hb⟩ := h
  refine ⟨be, ha, (hg.block be (Array.getElem?_eq_some_iff.1 hb).1 (fun e => ?_)).trans hb⟩
  obtain ⟨o, ho1, ho2⟩ := (hr be e.symm).2
  unfold BoB at hb
  rw [hb] at ho1
  cases ho1
  simp [Obj.isCells] at ho2
theorem new_bo (w : World) (x : Bo) : Kws bo4 (w.alloc (.cells #[.int .i64 x.o, .int .i64 x.h, .int .i64 x.m, .int .i64 x.c] 47)) (w.heap.size + 1) (some ⟨w.heap.size, 0, none⟩) 1 1 [x] := Kws.new w [x] _ _ 1 rfl rfl (by unfold maxLen; omega)
theorem listedL_any (q : Option Addr) (L : List Bo) (w : World) (hn : L.length ≤ 1000000) (hl : ∀ W, Below w.heap.size w W → Calls Try.prog 50 #[.pointer q] W (MkB W L)) :
    Calls Try.prog 25 #[.pointer q] w (MkB w L) := by
  obtain ⟨i0, hi0, hz0, hz1, hz2⟩ := info_parts infoB
  have hb1 : Below w.heap.size w (w.alloc (.cells #[.slice none 0 0] 26)) := (Below.refl _ _).alloc (Nat.le_refl _) _
  have e : (w.alloc (.cells #[.slice none 0 0] 26)).heap.size = w.heap.size + 1 := by simp
  have hb2 : Below w.heap.size w ((w.alloc (.cells #[.slice none 0 0] 26)).alloc (.cells #[.pointer q] 23)) := hb1.alloc hb1.size _
  have hc0 := cell_alloc (w := w.alloc (.cells #[.slice none 0 0] 26)) (cs := #[.pointer q]) (t := 23) (i := 0) rfl
  rw [e] at hc0
  have HSQ := Lib.hid (led_stops 5 w.heap.size (w.heap.size + 1) q L _ (by omega) hn (by simp; omega) (fun g hg => by
    unfold ob at hg
    rw [cell_under (cell_alloc rfl) _] at hg
    cases hg) hc0 (fun W hW => hl W (hb2.trans (hW.mono hb2.size))))
  have HB2 := Lib.hid hb2
  have HL2 : Hid (LI w [] ((w.alloc (.cells #[.slice none 0 0] 26)).alloc (.cells #[.pointer q] 23))) := Lib.hid ⟨hb2, none, 0, 0, (Cel.new (w := w) (t := 26) (v := .slice none 0 0)).go ((Below.refl _ _).alloc (Nat.le_refl _) _), OwnK.nil _ _ _ _⟩
  have HAL := Lib.hid (allL_any q (w.alloc (.cells #[.slice none 0 0] 26)))
  rw [e] at HAL
  clear hb1 hb2 hc0 e hl
  refine (callsIn_wide (n := 6)).1 ?_
  refine callsIn_of_wp_marks Try.func25 rfl trivial ?_ rfl
  refine wpIn_wide.2 ?_
  simp only [Try.ntmps25, List.size_toArray, List.length_cons, List.length_nil, Nat.reduceAdd, Nat.reduceSub, Array.replicate_succ, Array.replicate_zero, List.push_toArray, List.append_toArray, List.nil_append, List.cons_append]
  go_wp2_with fail
  refine HAL.out.mono ?_
  rintro e w2 ⟨rfl, hw2⟩
  have hz2' : w2.heap.size = w.heap.size + 2 := by rw [hw2]; simp
  rw [← hw2] at HSQ HB2 HL2
  clear hw2 HAL
  go_wp2
  refine (wpIn_wide (n := 6)).1 ?_
  refine wpIn_rangeFunc_ownH rfl (by omega) (gf := 49) (lb := #[.pointer (some ⟨w.heap.size + 1, 0, none⟩)]) rfl trivial (enters_of Try.func49 (by kernel_rfl) rfl) HSQ.out Kq.t (Kq.b w2 (by omega)) (Below.refl _ _) (fun _ => rfl)
    (LI w)
    (fun _ (_ : List Bo) _ => False)
    (li_own HB2.out.size)
    (fun _ => ownFrom_pure _ _)
    HL2.out (LA w q) (la_own) ?assign ?body ?done ?stop
  case assign =>
    rintro l pre x W K ⟨hB, A', n', c', hc⟩ hK
    have HK := Lib.hid hK
    have H1 : Hid (w.heap.size < W.heap.size) := Lib.hid hc.cel.lt
    have H2 : Hid (LI w pre (W.alloc (.cells #[.int .i64 x.o, .int .i64 x.h, .int .i64 x.m, .int .i64 x.c] 47))) := Lib.hid ⟨hB.alloc hB.size _, A', n', c', hc.go ((Below.refl _ _).alloc (Nat.le_refl _) _)⟩
    clear hK hB hc
    unfold boA
    gi_wp2
    exact HK.out _ _ ((KeepsOthers.allo _ _).from _) (Kq.alloc H1.out _) H2.out ⟨W.heap.size, rfl, BoB.new⟩
  case body =>
    rintro l pre x a' W hl _ ⟨hB, A', n', c', hc⟩ ⟨be, rfl, hbe⟩ hlen
    have e0 := hc.cel.cell
    obtain ⟨g0, g1, g2, g3⟩ := hbe.cells
    have HB := Lib.hid hB
    have HBX := Lib.hid hc
    have hbw := hB.size
    have hbx : w.heap.size < W.heap.size := hc.cel.lt
    have hpl : pre.length ≤ 1000000 := by omega
    have HY := Lib.hid (new_bo W x)
    clear hB hc hbe hlen
    gi_wp2_with (gi_at_builtin; go_must (refine wpListIn_appK _ rfl (.tmp 8) (.tmp 10) 26 rfl Try.underlying26 hi0 hz0 rfl hz1 (by omega) (HBX.out.own.alloc _) rfl HY.out rfl (by omega) (by simp; omega) ?_); intro v3 w3 ho3 hg3 hn3; obtain ⟨A3, n3, c3, rfl, hx3⟩ := ho3.shape; have HAP := Lib.hid (HBX.out.app ho3 hg3 hn3); have e3 := HAP.out.1.cell; have f3 := HAP.out.1.fr; clear ho3 hg3 hn3 hx3)
    obtain ⟨_, k1, k2, k3, k4⟩ := HAP.out
    exact ⟨k2.from _, k3, HB.out.trans k4, A3, n3, c3, k1⟩
  case stop =>
    rintro D c pre W _ hp hb _
    exact hb.elim
  case done =>
    rintro D ys W hD rfl ⟨hB, A', n', c', hc⟩ hK
    have e0 := hc.cel.cell
    have HKW := Lib.hid (show Df W D from hK)
    have HDw := Lib.hid (Nat.le_trans HB2.out.size hD)
    have HB := Lib.hid hB
    have HC := Lib.hid hc
    clear hK hD hB hc
    dsimp only
    go_wp2
    refine leave_one HKW.out ?_
    have HBs := Lib.hid (HKW.out.below HDw.out HB.out (.deferred none))
    have HOs := Lib.hid (HC.out.grown (grownBy_putObj' W D (.deferred none)) (fun r e => by cases e; exact ⟨_, HKW.out, rfl⟩)).own
    refine ⟨.slice A' n' c', ?_, _, rfl, HOs.out.down (by omega), HBs.out⟩
    simp [results, Try.f25, go_sem]
end Go.Proofs.Ytmmlelmkgnhofaa
