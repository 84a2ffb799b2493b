/-
  Contracts of slices.Clone and of slices.Delete of one element, at borrows. Conditions: the rows have at most a million elements.
-/
import Derived.Test.YtmmlelmkgnhofaaBoi
namespace Go.Proofs.Ytmmlelmkgnhofaa
open Go.ChangeShapes Go.WideShapes Go.ChangeAt Go.RowKit
set_option linter.unusedVariables false
set_option maxHeartbeats 4000000
set_option maxRecDepth 100000

/-- A row of borrows in new memory. -/
def MkB (w : World) (l : List Bo) (e : Ending) (w' : World) : Prop := ∃ v, e = .returned v ∧ OwnK bo4 47 w' w.heap.size v l ∧ Below w.heap.size w w'
theorem clone_any (A : Option Addr) (n c : Nat) (l : List Bo) (w : World) (h : Kws bo4 w w.heap.size A n c l) (hn : n ≤ 1000000) :
    Calls Try.prog 42 #[.slice A n c] w (MkB w l) := by
  obtain ⟨i0, hi, hz0, hz1, hz2⟩ := info_parts infoB
  have HX := Lib.hid h
  cases A with
  | none =>
    obtain rfl : c = 0 := h.nil rfl
    obtain rfl : n = 0 := by have := h.cap; omega
    obtain rfl : l = [] := List.eq_nil_of_length_eq_zero h.len
    have hq : ∀ W : World, (binOp .eql 26 (.slice none 0 0) (.slice none 0 0)).run Try.prog W = .ok (.bool true) W := fun W => Lib.run_eql_slice_nil W _ _ none 0 0 0 0 Try.underlying26
    clear h
    go_enter Try.func42, Try.ntmps42
    go_wp2
    go_ret
    exact ⟨_, rfl, OwnK.nil _ _ _ _, Below.refl _ _⟩
  | some a =>
    have hq : ∀ W : World, (binOp .eql 26 (.slice (some a) n c) (.slice none 0 0)).run Try.prog W = .ok (.bool false) W := fun W => Lib.run_eql_slice_nil W _ _ (some a) n c 0 0 Try.underlying26
    have HO : Hid (OwnK bo4 47 (w.alloc (.cells #[] 47)) w.heap.size (.slice (some ⟨w.heap.size, 0, none⟩) 0 0) []) := Lib.hid (World.ownsRow_made w #[] 0 (Nat.le_refl _) (Nat.zero_le _) rfl)
    clear h
    go_enter Try.func42, Try.ntmps42
    go_wp2_with (at_builtin; go_must (refine wpList_appK _ rfl (.tmp 5) (.tmp 6) 26 rfl Try.underlying26 hi hz0 rfl hz1 (by omega) HO.out rfl (HX.out.alloc _) rfl (by simp; omega) (by simp) ?_); intro v2 w2 ho2 hb2 hg2)
    go_ret
    exact ⟨_, rfl, ho2, ((Below.refl _ _).alloc (Nat.le_refl _) _).trans hb2⟩

theorem run_clearE (w : World) (ty : TypeId) (b o c : Nat) (cur : Array Value) (hg : w.heap[b]? = some (.cells cur 47 (0, 0))) (ho : o + 4 ≤ cur.size) :
    (Builtin.clear_ #[26] ty #[.slice (some ⟨b, o, none⟩) 1 c]).run Try.prog w = .ok (.tuple #[]) (w.setCells b o (bc ⟨0, 0, 0, 0⟩)) := by
  have hst := run_storeCells_cells (P := Try.prog) b o (bc ⟨0, 0, 0, 0⟩) 0 w (fun j hj => someB hg (by rw [bc_len] at hj; omega)) (fun j _ => frozen_of_row w b _ _ _ hg) bc_one
  rw [Nat.add_zero] at hst
  have hzc : (Builtin.zeroCells (Value.agg #[.int .i64 0, .int .i64 0, .int .i64 0, .int .i64 0]).cells 1).toList = (bc ⟨0, 0, 0, 0⟩) := by kernel_rfl
  have hzv : ∀ w, (zeroValue 47).run Try.prog w = .ok (.agg #[.int .i64 0, .int .i64 0, .int .i64 0, .int .i64 0]) w := fun w => Try.zeroValue47 w
  simp [Builtin.clear_, run_underlying Try.underlying26, hzv, hzc, hst]

theorem delete1_any (v : Value) (l : List Bo) (base i : Nat) (w : World) (ho : OwnK bo4 47 w base v l) (hi : i < l.length) (hl : l.length ≤ 1000000) :
    Calls Try.prog 48 #[v, .int .i64 i, .int .i64 ((i : Int) + 1)] w fun e w' =>
      ∃ v', e = .returned v' ∧ OwnK bo4 47 w' base v' (l.take i ++ l.drop (i + 1)) ∧ w.grownBy w' v.ownBlock ∧ v'.ownBlock = v.ownBlock := by
  obtain ⟨i0, hi0, hz0, hz1, hz2⟩ := info_parts infoB
  obtain ⟨g, cap, cur, R, rfl, hb, hgw, hg, hnc, hm, hs, hcur⟩ := ho.opn (by omega)
  replace hs : cur.size = cap * 4 := hs
  have hmx := hm
  unfold maxLen at hmx
  obtain ⟨n, hn⟩ : ∃ n, n = l.length := ⟨_, rfl⟩
  rw [← hn] at hi hl hnc ⊢
  obtain ⟨d, hd⟩ : ∃ d, l[i]? = some d := ⟨_, List.getElem?_eq_getElem (by omega)⟩
  have hlt : (bo4.row (l.take i)).length = i * 4 := by rw [br_len, List.length_take]; omega
  have hev : (bo4.row (l.drop (i + 1))).length = (n - (i + 1)) * 4 := by rw [br_len, List.length_drop, hn]
  have hl0 : bo4.row (l.drop i) = (bc d) ++ bo4.row (l.drop (i + 1)) := by rw [drop_one' hd]; rfl
  obtain ⟨T, hT⟩ : ∃ T, T = (bc d) ++ bo4.row (l.drop (i + 1)) := ⟨_, rfl⟩
  have hTl : T.length = (n - i) * 4 := by rw [hT, List.length_append, hev, bc_len]; omega
  have hlist1 : cur.toList = bo4.row (l.take i) ++ (T.take ((n - (i + 1)) * 4) ++ (T.drop ((n - (i + 1)) * 4) ++ R)) := by
    rw [hcur, br_split i, hl0, ← hT, ← List.append_assoc (T.take _), List.take_append_drop, List.append_assoc]
  have hlist2 : (ovw cur (i * 4) (bo4.row (l.drop (i + 1)))).toList = (bo4.row (l.take i) ++ bo4.row (l.drop (i + 1))) ++ (T.drop ((n - (i + 1)) * 4) ++ R) := by
    rw [ovw_list hlist1 hlt (by rw [hev, List.length_take, hTl]; omega), List.append_assoc]
  have hlist3 : (ovw (ovw cur (i * 4) (bo4.row (l.drop (i + 1)))) ((n - 1) * 4) (bc ⟨0, 0, 0, 0⟩)).toList = (bo4.row (l.take i) ++ bo4.row (l.drop (i + 1))) ++ (bc ⟨0, 0, 0, 0⟩ ++ R) :=
    ovw_list hlist2 (by rw [List.length_append, hlt, hev]; omega) (by rw [List.length_drop, hTl, bc_len]; omega)
  obtain ⟨q, hq⟩ : ∃ q, q = if cap = i + 1 then 0 else (i + 1) * 4 := ⟨_, rfl⟩
  have hsl3 : ∃ v0, ∀ wx : World, (Instr.slice 26 (.slice (some ⟨g, 0, none⟩) n cap) (some (.int .i64 (i : Int))) (some (.int .i64 ((i : Int) + 1))) (some (.int .i64 (n : Int)))).run Try.prog wx = .ok v0 wx :=
    ⟨sliced (some ⟨g, 0, none⟩) i (i + 1) n 4, fun wx => by
      rw [show (i : Int) + 1 = ((i + 1 : Nat) : Int) by omega, run_slice_lhm (P := Try.prog) wx 26 _ n cap Try.underlying26 .i64 .i64 .i64 (i : Int) ((i + 1 : Nat) : Int) (n : Int) (by omega) (by omega) (by omega) (by omega)]
      simp [sliced, go_sem]⟩
  obtain ⟨v0, hsl3⟩ := hsl3
  have hsh := slice_hi g n cap i i rfl (by omega)
  have hsl : ∀ wx : World, (Instr.slice 26 (.slice (some ⟨g, 0, none⟩) n cap) (some (.int .i64 ((i : Int) + 1))) none none).run Try.prog wx = .ok (.slice (some ⟨g, q, none⟩) (n - (i + 1)) (cap - (i + 1))) wx := fun wx => by
    rw [show (i : Int) + 1 = ((i + 1 : Nat) : Int) by omega, run_slice_l (P := Try.prog) wx 26 _ n cap Try.underlying26 .i64 ((i + 1 : Nat) : Int) (by omega) (by omega), hq]
    by_cases hc : cap = i + 1
    · simp [sliced, go_sem, hc]
    · simp [sliced, go_sem, hc]
  have hsc : ∀ wx : World, (Instr.slice 26 (.slice (some ⟨g, 0, none⟩) (n - 1) cap) (some (.int .i64 ((n - 1 : Nat) : Int))) (some (.int .i64 (n : Int))) none).run Try.prog wx = .ok (.slice (some ⟨g, (n - 1) * 4, none⟩) 1 (cap - (n - 1))) wx := fun wx => by
    rw [run_slice_lh (P := Try.prog) wx 26 _ (n - 1) cap Try.underlying26 .i64 .i64 ((n - 1 : Nat) : Int) (n : Int) (by omega) (by omega) (by omega)]
    have h1 : ¬ cap = n - 1 := by omega
    have h2 : n - (n - 1) = 1 := by omega
    simp [sliced, go_sem, h1, h2]
  have hsrc : ∀ W : World, Below w.heap.size w W → Src Try.prog i0.size 26 (.slice (some ⟨g, q, none⟩) (n - (i + 1)) (cap - (i + 1))) (n - (i + 1)) (bo4.row (l.drop (i + 1))) W := fun W hW => by
    rw [hz1]
    refine Src.ofSlice W Try.underlying26 ⟨g, q, none⟩ _ _ _ hev (fun j u hj => ?_) br_one
    have hj' := (List.getElem?_eq_some_iff.1 hj).1
    rw [hev] at hj'
    have hgW := (hW.block g hgw).trans hg
    rw [hq, if_neg (by omega), Addr.add_lit, cellB hgW, hcur, List.getElem?_append_left (by rw [br_len, ← hn]; omega), ← hj, ← br_drop, List.getElem?_drop]
  have HS := Lib.hid hsrc
  have HL3 := Lib.hid hlist3
  have HG := Lib.hid hg
  have HE : Hid (bo4.row (l.take i ++ l.drop (i + 1)) = bo4.row (l.take i) ++ bo4.row (l.drop (i + 1))) := Lib.hid (by rw [← br_app])
  have HEV := Lib.hid hev
  have HI := Lib.hid hi0
  have hq1 : ¬ ((i : Int) = (i : Int) + 1) := by omega
  have HN := Lib.hid hn
  clear hsrc hlist1 hlist2 hlist3 hg hcur hd hlt hev hn hl0 hT hTl hq hi0 hz0 hz2 ho
  go_enter Try.func48, Try.ntmps48
  go_wp2
  refine wp_region_later_tail 6 (by kernel_rfl) (by kernel_rfl) ?_
  simp only [List.take_succ_cons, List.take_zero, List.drop_succ_cons, List.drop_zero]
  repeat (go_big_quiet_step (fail))
  refine wpQuiet_nil ?_
  rintro w7 ⟨⟨_, hq⟩, rfl⟩
  have HS7 := Lib.hid (HS.out w7 hq)
  have HG7 : Hid (w7.heap[g]? = some (.cells cur 47 (0, 0))) := Lib.hid ((hq.block g hgw).trans HG.out)
  have HW7 : Hid (w.grownBy w7 (some g)) := Lib.hid (grown_below hq _)
  have HG8 := Lib.hid (heap_setCells (o := i * 4) (vs := bo4.row (l.drop (i + 1))) HG7.out)
  have HW8 := Lib.hid (grown_trans HW7.out (setCells_grown (g := g) (vs := bo4.row (l.drop (i + 1))) (o := i * 4) (w := w7)))
  clear HS hq
  refine wpList_append_room_src w7 rfl _ _ 26 26 rfl 47 i0 Try.underlying26 HI.out g 0 i cap rfl _ rfl (n - (i + 1)) _ HS7.out (by omega) (fun j hj => someB HG7.out (by rw [HEV.out] at hj; rw [hz1]; omega)) (fun j _ => frozen_of_row w7 g _ _ _ HG7.out) ?_
  rw [hz1, Nat.zero_add, show i + (n - (i + 1)) = n - 1 by omega]
  generalize w7.setCells g (i * 4) (bo4.row (l.drop (i + 1))) = w8 at *
  have hcl := fun ty => run_clearE w8 ty g ((n - 1) * 4) (cap - (n - 1)) _ HG8.out (by rw [ovw_size]; omega)
  have HG9 := Lib.hid (heap_setCells (o := (n - 1) * 4) (vs := (bc ⟨0, 0, 0, 0⟩)) HG8.out)
  have HW9 := Lib.hid (grown_trans HW8.out (setCells_grown (g := g) (vs := (bc ⟨0, 0, 0, 0⟩)) (o := (n - 1) * 4) (w := w8)))
  generalize w8.setCells g ((n - 1) * 4) (bc ⟨0, 0, 0, 0⟩) = w9 at *
  go_wp2
  go_ret
  exact ⟨_, rfl, OwnK.shut hb HG9.out (by simp [← HN.out]; omega) hm (by rw [ovw_size, ovw_size]; exact hs) (by rw [HL3.out, HE.out]) (by simp [← HN.out]; omega), HW9.out, rfl⟩
end Go.Proofs.Ytmmlelmkgnhofaa
