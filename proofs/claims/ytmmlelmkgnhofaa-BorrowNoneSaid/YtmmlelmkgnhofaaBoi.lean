/-
  Contract of slices.Insert at borrows, for one element that lies in a block of its own: the element comes to its place in the call's own row, in place or in a new row. Conditions: the row has at most a million elements.
-/
import Derived.Test.YtmmlelmkgnhofaaBov
import Derived.Test.YtmmlelmkgnhofaaLater
namespace Go.Proofs.Ytmmlelmkgnhofaa
open Go.ChangeShapes Go.WideShapes Go.ChangeAt Go.RowKit
set_option linter.unusedVariables false
set_option maxHeartbeats 4000000
set_option maxRecDepth 100000

/-- There is room. -/
theorem insert_room (g cap i vb : Nat) (cur : Array Value) (R : List Value) (l : List Bo) (x : Bo) (w : World) (hg : w.heap[g]? = some (.cells cur 47 (0, 0))) (hsz : cur.size = cap * 4) (hm : cap ≤ maxLen)
    (hr : l.length + 1 ≤ cap) (hcur : cur.toList = bo4.row l ++ R) (hi : i < l.length) (hv : w.heap[vb]? = some (.cells #[.int .i64 x.o, .int .i64 x.h, .int .i64 x.m, .int .i64 x.c] 47 (0, 0))) (hne : vb ≠ g) :
    Calls Try.prog 36 #[.slice (some ⟨g, 0, none⟩) l.length cap, .int .i64 i, .slice (some ⟨vb, 0, none⟩) 1 1] w fun e w' =>
      e = .returned (.slice (some ⟨g, 0, none⟩) (l.length + 1) cap) ∧ (∃ cur' R', w'.heap[g]? = some (.cells cur' 47 (0, 0)) ∧ cur'.size = cap * 4 ∧ cur'.toList = bo4.row (l.take i ++ x :: l.drop i) ++ R') ∧ w.grownBy w' (some g) := by
  obtain ⟨n, hn⟩ : ∃ n, n = l.length := ⟨_, rfl⟩
  rw [← hn] at hr hi ⊢
  have hmx := hm
  unfold maxLen at hmx
  have hgw : g < w.heap.size := (Array.getElem?_eq_some_iff.1 hg).1
  have hvw : vb < w.heap.size := (Array.getElem?_eq_some_iff.1 hv).1
  have hRl : R.length = (cap - n) * 4 := by
    have : cur.toList.length = cap * 4 := by simpa using hsz
    rw [hcur, List.length_append, br_len, ← hn] at this
    omega
  obtain ⟨d, hd⟩ : ∃ d, l[i]? = some d := ⟨_, List.getElem?_eq_getElem (by omega)⟩
  have hlist1 : cur.toList = (bo4.row (l.take i) ++ (bc d)) ++ ((bo4.row (l.drop (i + 1)) ++ R.take 4) ++ R.drop 4) := by
    rw [hcur, br_split i, drop_one' hd]
    rw [br_cons]
    simp
  have hlt : (bo4.row (l.take i)).length = i * 4 := by rw [br_len, List.length_take]; omega
  have hev : (bo4.row (l.drop i)).length = (n - i) * 4 := by rw [br_len, List.length_drop, hn]
  have hlist2 : (ovw cur ((i + 1) * 4) (bo4.row (l.drop i))).toList = (bo4.row (l.take i) ++ (bc d)) ++ (bo4.row (l.drop i) ++ R.drop 4) :=
    ovw_list hlist1 (by simp [hlt, bc_len]; omega) (by rw [hev, List.length_append, br_len, List.length_drop, List.length_take, hRl]; omega)
  have hlist3 : (ovw (ovw cur ((i + 1) * 4) (bo4.row (l.drop i))) (i * 4) (bc x)).toList = bo4.row (l.take i) ++ (bc x ++ (bo4.row (l.drop i) ++ R.drop 4)) :=
    ovw_list (b := bc d) (by rw [hlist2, List.append_assoc]) hlt rfl
  have hov := fun lb cb => overlaps_no w g vb ((i + 1) * 4) lb cb cur _ _ _ _ hg hv hne (by omega)
  -- the first copy, in whatever later world
  have hc1 : ∀ (W : World) (ty : TypeId), Below w.heap.size w W → (Builtin.copy_ #[26, 26] ty #[.slice (some ⟨g, (i + 1) * 4, none⟩) (n - i) (cap - (i + 1)), .slice (some ⟨g, i * 4, none⟩) (n + 1 - i) (cap - i)]).run Try.prog W = .ok (goInt (Nat.min (n + 1 - i) (n - i))) (W.setCells g ((i + 1) * 4) (bo4.row (l.drop i))) := fun W ty hW => by
    have hgW := (hW.block g hgw).trans hg
    refine run_copyK W 4 _ _ ty _ g ((i + 1) * 4) _ _ ⟨g, i * 4, none⟩ _ _ _ Try.underlying26 info4 (by rw [hev]; simp only [Nat.min_def]; split <;> omega) (fun j v hj => ?_) (fun j hj => someB hgW (by rw [hev] at hj; omega)) (fun j _ => frozen_of_row W g _ _ _ hgW) br_one
    rw [Addr.add_lit, cellB hgW, hcur, List.getElem?_append_left (by rw [br_len, ← hn]; have := (List.getElem?_eq_some_iff.1 hj).1; rw [hev] at this; omega), ← hj, ← br_drop, List.getElem?_drop]
  have hc2 : ∀ (W : World) (ty : TypeId), W.heap[g]? = some (.cells (ovw cur ((i + 1) * 4) (bo4.row (l.drop i))) 47 (0, 0)) → W.heap[vb]? = some (.cells #[.int .i64 x.o, .int .i64 x.h, .int .i64 x.m, .int .i64 x.c] 47 (0, 0)) →
      (Builtin.copy_ #[26, 26] ty #[.slice (some ⟨g, i * 4, none⟩) (n + 1 - i) (cap - i), .slice (some ⟨vb, 0, none⟩) 1 1]).run Try.prog W = .ok (goInt (Nat.min 1 (n + 1 - i))) (W.setCells g (i * 4) (bc x)) := fun W ty hgW hvW => by
    refine run_copyK W 4 _ _ ty _ g (i * 4) _ _ ⟨vb, 0, none⟩ _ _ _ Try.underlying26 info4 (by rw [bc_len]; simp only [Nat.min_def]; split <;> omega) (fun j v hj => ?_) (fun j hj => someB hgW (by rw [ovw_size]; rw [bc_len] at hj; omega)) (fun j _ => frozen_of_row W g _ _ _ hgW) bc_one
    rw [Addr.add_lit, cellB hvW, Nat.zero_add]
    exact hj
  have HC1 := Lib.hid hc1
  have HC2 := Lib.hid hc2
  have HL3 := Lib.hid hlist3
  have HG := Lib.hid hg
  have HV := Lib.hid hv
  have HE : Hid (bo4.row (l.take i ++ x :: l.drop i) = bo4.row (l.take i) ++ (bc x ++ bo4.row (l.drop i))) := Lib.hid (by rw [← br_app, br_cons])
  have hsl0 := slice_lo g n cap i i rfl (by omega) (by omega)
  have hsh := slice_hi g n cap (n + 1) ((n : Int) + 1) (by omega) hr
  have hsl1 := slice_lo g (n + 1) cap (i + 1) ((i : Int) + 1) (by omega) (by omega) (by omega)
  rw [show n + 1 - (i + 1) = n - i by omega] at hsl1
  have hsl2 := slice_lo g (n + 1) cap i i rfl (by omega) (by omega)
  have hq1 : ¬ ((i : Int) = (n : Int)) := by omega
  have hq2 : ¬ ((cap : Int) < (n : Int) + 1) := by omega
  clear hc1 hc2 hlist1 hlist2 hlist3 hg hv hcur hd hlt hev hRl hn hm
  go_enter Try.func36, Try.ntmps36
  go_wp2_with (simp only [hov])
  refine wp_region_later_tail 8 (by kernel_rfl) (by kernel_rfl) ?_
  simp only [List.take_succ_cons, List.take_zero, List.drop_succ_cons, List.drop_zero]
  repeat (go_big_quiet_step (fail))
  refine wpQuiet_nil ?_
  rintro w7 ⟨⟨_, hq⟩, rfl⟩
  have h1 := fun ty => HC1.out w7 ty hq
  have HG8 := Lib.hid (heap_setCells (o := (i + 1) * 4) (vs := bo4.row (l.drop i)) ((hq.block g hgw).trans HG.out))
  have HV8 : Hid ((w7.setCells g ((i + 1) * 4) (bo4.row (l.drop i))).heap[vb]? = _) := Lib.hid (((setCells_grown (g := g) (vs := bo4.row (l.drop i)) (o := (i + 1) * 4) (w := w7)).block vb (Nat.lt_of_lt_of_le hvw hq.size) (fun e => hne (Option.some.inj e))).trans ((hq.block vb hvw).trans HV.out))
  have HW8 := Lib.hid (grown_trans (grown_below hq (some g)) (setCells_grown (g := g) (vs := bo4.row (l.drop i)) (o := (i + 1) * 4) (w := w7)))
  generalize w7.setCells g ((i + 1) * 4) (bo4.row (l.drop i)) = w8 at *
  have h2 := fun ty => HC2.out w8 ty HG8.out HV8.out
  have HG9 := Lib.hid (heap_setCells (o := i * 4) (vs := (bc x)) HG8.out)
  have HW9 := Lib.hid (grown_trans HW8.out (setCells_grown (g := g) (vs := (bc x)) (o := i * 4) (w := w8)))
  generalize w8.setCells g (i * 4) (bc x) = w9 at *
  have H1 := Lib.hid h1
  clear h1 hq HC1 HC2
  refine wpList_copyE _ rfl _ _ 26 26 rfl _ _ rfl rfl (H1.out _) ?_
  go_wp2
  go_ret
  exact ⟨rfl, ⟨_, R.drop 4, HG9.out, by rw [ovw_size, ovw_size]; exact hsz, by rw [HL3.out, HE.out]; simp⟩, HW9.out⟩
/-- There is no room: a new row. -/
theorem insert_grow (g cap i vb : Nat) (cur : Array Value) (R : List Value) (l : List Bo) (x : Bo) (w : World) (hg : w.heap[g]? = some (.cells cur 47 (0, 0)))
    (hnc : l.length ≤ cap) (hr : cap < l.length + 1) (hcur : cur.toList = bo4.row l ++ R) (hi : i < l.length) (hl : l.length ≤ 1000000) (hv : w.heap[vb]? = some (.cells #[.int .i64 x.o, .int .i64 x.h, .int .i64 x.m, .int .i64 x.c] 47 (0, 0))) :
    Calls Try.prog 36 #[.slice (some ⟨g, 0, none⟩) l.length cap, .int .i64 i, .slice (some ⟨vb, 0, none⟩) 1 1] w fun e w' =>
      ∃ G, e = .returned (.slice (some ⟨w.heap.size, 0, none⟩) (l.length + 1) G) ∧ l.length + 1 ≤ G ∧ G ≤ maxLen ∧ (∃ cur' R', w'.heap[w.heap.size]? = some (.cells cur' 47 (0, 0)) ∧ cur'.size = G * 4 ∧ cur'.toList = bo4.row (l.take i ++ x :: l.drop i) ++ R') ∧ Below w.heap.size w w' := by
  obtain ⟨i0, hi0, hz0, hz1, hz2⟩ := info_parts infoB
  obtain ⟨n, hn⟩ : ∃ n, n = l.length := ⟨_, rfl⟩
  rw [← hn] at hr hi hl hnc ⊢
  have hgw : g < w.heap.size := (Array.getElem?_eq_some_iff.1 hg).1
  have hvw : vb < w.heap.size := (Array.getElem?_eq_some_iff.1 hv).1
  have hlt : (bo4.row (l.take i)).length = i * 4 := by rw [br_len, List.length_take]; omega
  have hev : (bo4.row (l.drop i)).length = (n - i) * 4 := by rw [br_len, List.length_drop, hn]
  have hik : i + (n + 1 - i) = n + 1 := by omega
  have hold : (Builtin.firstCells i0.size i (.slice (some ⟨g, 0, none⟩) i cap)).run Try.prog w.drew = .ok (bo4.row (l.take i)).toArray w.drew := by
    rw [hz1]
    refine run_firstCells_some w.drew 4 i ⟨g, 0, none⟩ i cap (bo4.row (l.take i)) (by rw [hlt]) (fun j v hj => ?_)
    have hj' := (List.getElem?_eq_some_iff.1 hj).1
    have hgd : w.drew.heap[g]? = some (.cells cur 47 (0, 0)) := hg
    rw [Addr.add_lit, Nat.zero_add, cellB hgd, hcur, br_split i, List.append_assoc, List.getElem?_append_left hj', hj]
  have h := fun ty => Lib.run_append_grow_zeros (P := Try.prog) w 26 3 ty 47 i0 _ .i64 .i64 Try.underlying26 Try.underlying3 hi0 hz0 (some ⟨g, 0, none⟩) i cap (bo4.row (l.take i)) hold (n + 1 - i) (by omega) (by omega) (by omega) (by omega) (by rw [hz2]; omega)
    (by rw [hik]; exact growslice_fits (by omega) (by rw [hz2]; omega))
  rw [hik] at h
  have hgg := grownCap_ge w (n + 1) cap 47
  have hgm := grownCap_le_maxLen w (n + 1) cap 47 (by unfold maxLen; omega)
  generalize grownCap w (n + 1) cap 47 = G at *
  have hgx := hgm
  unfold maxLen at hgx
  obtain ⟨Z1, hZ1⟩ : ∃ Z, Z = (Builtin.zeroCells (Value.agg #[.int .i64 0, .int .i64 0, .int .i64 0, .int .i64 0]).cells (n + 1 - i)) := ⟨_, rfl⟩
  obtain ⟨Z2, hZ2⟩ : ∃ Z, Z = (Builtin.zeroCells (Value.agg #[.int .i64 0, .int .i64 0, .int .i64 0, .int .i64 0]).cells (G - (n + 1))) := ⟨_, rfl⟩
  have hz1s : Z1.toList.length = (n + 1 - i) * 4 := by rw [hZ1]; simp only [Array.length_toList, size_zeroCells]; simp [Value.cells]
  have hz2s : Z2.toList.length = (G - (n + 1)) * 4 := by rw [hZ2]; simp only [Array.length_toList, size_zeroCells]; simp [Value.cells]
  simp only [← hZ1, ← hZ2] at h
  clear hZ1 hZ2
  obtain ⟨ROW, hROW⟩ : ∃ ROW : Array Value, ROW = (bo4.row (l.take i)).toArray ++ Z1 ++ Z2 := ⟨_, rfl⟩
  simp only [← hROW] at h
  have hRL : ROW.toList = bo4.row (l.take i) ++ ((Z1.toList.take 4 ++ (Z1.toList.drop 4)) ++ Z2.toList) := by
    rw [hROW, List.take_append_drop]
    simp
  have hRS : ROW.size = G * 4 := by
    have : ROW.toList.length = G * 4 := by
      rw [hRL, List.take_append_drop, List.length_append, List.length_append, hlt, hz1s, hz2s]
      omega
    simpa using this
  have hkk : (n : Int) + 1 - (i : Int) = ((n + 1 - i : Nat) : Int) := by omega
  rw [← hkk] at h
  have hlist2 : (ovw ROW (i * 4) (bc x)).toList = (bo4.row (l.take i) ++ (bc x)) ++ (Z1.toList.drop 4 ++ Z2.toList) := by
    rw [ovw_list (b := Z1.toList.take 4) (r := Z1.toList.drop 4 ++ Z2.toList) (by rw [hRL]; simp only [List.append_assoc]) hlt (by rw [List.length_take, hz1s, bc_len]; omega)]
    simp
  have hlist3 : (ovw (ovw ROW (i * 4) (bc x)) ((i + 1) * 4) (bo4.row (l.drop i))).toList = (bo4.row (l.take i) ++ (bc x)) ++ (bo4.row (l.drop i) ++ Z2.toList) :=
    ovw_list hlist2 (by simp [hlt, bc_len]; omega) (by rw [hev, List.length_drop, hz1s]; omega)
  have hW1 : (w.drew.alloc (.cells ROW 47)).heap[w.heap.size]? = some (.cells ROW 47 (0, 0)) := heap_alloc_new w.drew _
  have hB1 : Below w.heap.size w (w.drew.alloc (.cells ROW 47)) := (below_drewN (Below.refl _ _) 1).alloc (Nat.le_refl _) _
  generalize w.drew.alloc (.cells ROW 47) = w1 at *
  have hc1 : ∀ (ty : TypeId), (Builtin.copy_ #[26, 26] ty #[.slice (some ⟨w.heap.size, i * 4, none⟩) (n + 1 - i) (G - i), .slice (some ⟨vb, 0, none⟩) 1 1]).run Try.prog w1 = .ok (goInt (Nat.min 1 (n + 1 - i))) (w1.setCells w.heap.size (i * 4) (bc x)) := fun ty => by
    have hvW := (hB1.block vb hvw).trans hv
    refine run_copyK w1 4 _ _ ty _ w.heap.size (i * 4) _ _ ⟨vb, 0, none⟩ _ _ _ Try.underlying26 info4 (by rw [bc_len]; simp only [Nat.min_def]; split <;> omega) (fun j v hj => ?_) (fun j hj => someB hW1 (by rw [bc_len] at hj; omega)) (fun j _ => frozen_of_row w1 w.heap.size _ _ _ hW1) bc_one
    rw [Addr.add_lit, cellB hvW, Nat.zero_add]
    exact hj
  have hW2 := heap_setCells (o := i * 4) (vs := (bc x)) hW1
  have hB2 : Below w.heap.size w (w1.setCells w.heap.size (i * 4) (bc x)) := hB1.grown (setCells_grown (g := w.heap.size)) hB1.size (fun k e => by cases e; omega)
  have hg1 : w.heap.size < (w1.setCells w.heap.size (i * 4) (bc x)).heap.size := (Array.getElem?_eq_some_iff.1 hW2).1
  generalize w1.setCells w.heap.size (i * 4) (bc x) = w2 at *
  have hc2 : ∀ (W : World) (ty : TypeId), Below w2.heap.size w2 W → (Builtin.copy_ #[26, 26] ty #[.slice (some ⟨w.heap.size, (i + 1) * 4, none⟩) (n - i) (G - (i + 1)), .slice (some ⟨g, i * 4, none⟩) (n - i) (cap - i)]).run Try.prog W = .ok (goInt (Nat.min (n - i) (n - i))) (W.setCells w.heap.size ((i + 1) * 4) (bo4.row (l.drop i))) := fun W ty hW => by
    have hNW := (hW.block _ hg1).trans hW2
    have hgW := (hW.block g (Nat.lt_trans hgw hg1)).trans ((hB2.block g hgw).trans hg)
    refine run_copyK W 4 _ _ ty _ w.heap.size ((i + 1) * 4) _ _ ⟨g, i * 4, none⟩ _ _ _ Try.underlying26 info4 (by rw [hev]; simp only [Nat.min_def]; split <;> omega) (fun j v hj => ?_) (fun j hj => someB hNW (by rw [ovw_size]; rw [hev] at hj; omega)) (fun j _ => frozen_of_row W w.heap.size _ _ _ hNW) br_one
    rw [Addr.add_lit, cellB hgW, hcur, List.getElem?_append_left (by rw [br_len, ← hn]; have := (List.getElem?_eq_some_iff.1 hj).1; rw [hev] at this; omega), ← hj, ← br_drop, List.getElem?_drop]
  have HC2 := Lib.hid hc2
  have HL3 := Lib.hid hlist3
  have HW2 := Lib.hid hW2
  have HB2 := Lib.hid hB2
  have HE : Hid (bo4.row (l.take i ++ x :: l.drop i) = bo4.row (l.take i) ++ (bc x ++ bo4.row (l.drop i))) := Lib.hid (by rw [← br_app, br_cons])
  have hsl0 := slice_lo g n cap i i rfl (by omega) (by omega)
  have hsh := slice_hi g n cap i i rfl (by omega)
  have hsl1 := slice_lo w.heap.size (n + 1) G i i rfl (by omega) (by omega)
  have hsl2 := slice_lo w.heap.size (n + 1) G (i + 1) ((i : Int) + 1) (by omega) (by omega) (by omega)
  rw [show n + 1 - (i + 1) = n - i by omega] at hsl2
  have hq1 : ¬ ((i : Int) = (n : Int)) := by omega
  have hq2 : ((cap : Int) < (n : Int) + 1) := by omega
  have hcx : cap ≤ 1000000 := by omega
  have HAP := Lib.hid h
  clear h hc2 hlist2 hlist3 hg hv hcur hlt hev hn hW1 hB1 hW2 hB2 hz1s hz2s hROW hRL hold hi0 hz0 hz1 hz2 hkk hik
  go_enter Try.func36, Try.ntmps36
  go_wp2_with (at_builtin; refine Lib.wpList_append_run _ rfl _ _ _ _ rfl _ _ rfl rfl _ _ (HAP.out _) ?_)
  refine wp_region_later_tail 8 (by kernel_rfl) (by kernel_rfl) ?_
  simp only [List.take_succ_cons, List.take_zero, List.drop_succ_cons, List.drop_zero]
  repeat (go_big_quiet_step (fail))
  refine wpQuiet_nil ?_
  rintro w7 ⟨⟨_, hq⟩, rfl⟩
  have H1 := Lib.hid (fun ty => HC2.out w7 ty hq)
  have HG8 := Lib.hid (heap_setCells (o := (i + 1) * 4) (vs := bo4.row (l.drop i)) ((hq.block _ hg1).trans HW2.out))
  have HW8 : Hid (Below w.heap.size w (w7.setCells w.heap.size ((i + 1) * 4) (bo4.row (l.drop i)))) := Lib.hid ((Below.then HB2.out hq (Nat.le_refl _)).grown (setCells_grown (g := w.heap.size)) (by have := hq.size; omega) (fun k e => by cases e; omega))
  generalize w7.setCells w.heap.size ((i + 1) * 4) (bo4.row (l.drop i)) = w8 at *
  clear hq HC2
  refine wpList_copyE _ rfl _ _ 26 26 rfl _ _ rfl rfl (H1.out _) ?_
  go_wp2
  go_ret
  exact ⟨G, rfl, hgg, hgm, ⟨_, Z2.toList, HG8.out, by rw [ovw_size, ovw_size]; exact hRS, by rw [HL3.out, HE.out]; simp⟩, HW8.out⟩

/-- A block with one element. -/
theorem Kws.one_ {w : World} {vb : Nat} {x : Bo} (hv : w.heap[vb]? = some (.cells #[.int .i64 x.o, .int .i64 x.h, .int .i64 x.m, .int .i64 x.c] 47 (0, 0))) : Kws bo4 w w.heap.size (some ⟨vb, 0, none⟩) 1 1 [x] :=
  ⟨rfl, Nat.le_refl _, by unfold maxLen; omega, (fun h => by cases h), fun _ => ⟨vb, 0, rfl, (Array.getElem?_eq_some_iff.1 hv).1, fun p u hu => by
    rw [cellB hv, Nat.zero_add]
    exact hu⟩⟩
/-- slices.Insert of one element that lies in a block of its own, into a row of the call's own. -/
theorem insert1_any (v : Value) (l : List Bo) (base i vb : Nat) (x : Bo) (w : World) (ho : OwnK bo4 47 w base v l) (hi : i ≤ l.length) (hl : l.length ≤ 1000000) (hbase : base ≤ w.heap.size)
    (hv : w.heap[vb]? = some (.cells #[.int .i64 x.o, .int .i64 x.h, .int .i64 x.m, .int .i64 x.c] 47 (0, 0))) (hne : v.ownBlock ≠ some vb) :
    Calls Try.prog 36 #[v, .int .i64 i, .slice (some ⟨vb, 0, none⟩) 1 1] w fun e w' =>
      ∃ v', e = .returned v' ∧ OwnK bo4 47 w' base v' (l.take i ++ x :: l.drop i) ∧ w.grownBy w' v.ownBlock ∧ (v'.ownBlock = v.ownBlock ∨ v'.ownBlock = some w.heap.size) := by
  rcases Nat.lt_or_ge i l.length with hlt | hge
  · obtain ⟨g, cap, cur, R, rfl, hb, hgw, hg, hnc, hm, hs, hc⟩ := ho.opn (by omega)
    have hne' : vb ≠ g := fun e => hne (by rw [e]; rfl)
    rcases Nat.lt_or_ge cap (l.length + 1) with hr | hr
    · refine (insert_grow g cap i vb cur R l x w hg hnc hr hc hlt hl hv).mono ?_
      rintro e w' ⟨G, rfl, h1, h2, ⟨cur', R', h3, h4, h5⟩, h6⟩
      refine ⟨_, rfl, OwnK.shut hbase h3 (by simp; omega) h2 h4 h5 (by simp; omega), grown_below h6 _, .inr rfl⟩
    · refine (insert_room g cap i vb cur R l x w hg hs hm hr hc hlt hv hne').mono ?_
      rintro e w' ⟨rfl, ⟨cur', R', h3, h4, h5⟩, h6⟩
      exact ⟨_, rfl, OwnK.shut hb h3 (by simp; omega) hm h4 h5 (by simp; omega), h6, .inl rfl⟩
  · obtain rfl : i = l.length := by omega
    obtain ⟨i0, hi0, hz0, hz1, hz2⟩ := info_parts infoB
    obtain ⟨A, n, c, rfl, hx⟩ := ho.shape
    have hn := hx.len
    subst hn
    have hcap := hx.cap
    have hsm := hx.small
    unfold maxLen at hsm
    have HO := Lib.hid ho
    have HV := Lib.hid (Kws.one_ hv)
    have HF : Hid (l.take l.length ++ x :: l.drop l.length = l ++ [x]) := Lib.hid (by simp)
    obtain ⟨v0, hsl⟩ := cutB_lo A l.length c l.length (Nat.le_refl _) hcap
    rw [HF.out]
    clear ho hx hv hne hi hge
    have HN : Hid (∀ m, m = l → m.length ≤ 1000000) := Lib.hid (fun m e => by rw [e]; exact hl)
    generalize l.length = n at *
    go_enter Try.func36, Try.ntmps36
    go_wp2_with (at_builtin; go_must (refine wpList_appK _ rfl (.tmp 23) (.tmp 24) 26 rfl Try.underlying26 hi0 hz0 rfl hz1 (by omega) HO.out rfl HV.out rfl (by have := HN.out l rfl; omega) (by omega) ?_); intro v2 w2 ho2 hb2 hg2)
    go_ret
    exact ⟨_, rfl, ho2, hg2.1, hg2.2⟩
end Go.Proofs.Ytmmlelmkgnhofaa
