/-
  Contract of the law's list of what a table's iterator runs over. Conditions: at most a million live entries, in ascending order of their slots.
-/
import Derived.Test.YtaoojgnkbcoggaaHll
namespace Go.Proofs.Ytaoojgnkbcoggaa
open Go.ChangeShapes Go.WideShapes Go.ChangeAt Go.RowKit Go.Shelf
attribute [local go_sem] Oper.semAt_some
set_option linter.unusedVariables false
set_option linter.unusedSimpArgs false
set_option maxHeartbeats 4000000
set_option maxRecDepth 100000

/-- What a round keeps: all cells but two boxes and the row that the first one holds. -/
def Kr (b1 b2 : Nat) (A B : World) : Prop := A.heap.size ≤ B.heap.size ∧ (∀ (g : Nat) (cs : Array Value) (t : TypeId) (fr : Nat × Nat), A.heap[g]? = some (.cells cs t fr) → g ≠ b1 → g ≠ b2 → ob b1 A ≠ some g → B.heap[g]? = some (.cells cs t fr)) ∧ (ob b1 B = ob b1 A ∨ ∀ g, ob b1 B = some g → A.heap.size ≤ g)
section
variable {b1 b2 : Nat} {A B C : World}
theorem Kr.t (h : Kr b1 b2 A B) (k : Kr b1 b2 B C) : Kr b1 b2 A C := by
  obtain ⟨h1, h2, h3⟩ := h
  obtain ⟨k1, k2, k3⟩ := k
  refine ⟨Nat.le_trans h1 k1, fun g cs t fr hg hne hne2 ho => k2 g cs t fr (h2 g cs t fr hg hne hne2 ho) hne hne2 (fun e => ?_), ?_⟩
  · rcases h3 with h3 | h3
    · exact ho (h3 ▸ e)
    · have := h3 g e
      have := (Array.getElem?_eq_some_iff.1 hg).1
      omega
  · rcases k3 with k3 | k3
    · rw [k3]
      exact h3
    · exact .inr fun g hg => Nat.le_trans h1 (k3 g hg)
theorem Kr.of (h : Kq b1 A B) : Kr b1 b2 A B := ⟨h.1, fun g cs t fr hg hne _ ho => h.2.1 g cs t fr hg hne ho, h.2.2⟩
theorem Kr.b (w : World) (hbx : b1 < w.heap.size) (W : World) (l : Nat) (o o' : Obj) (hl : w.heap.size ≤ l) (h : W.heap[l]? = some o) (hc : o.isCells = false) (hw : o.isWalk = false) : Kr b1 b2 W (W.putObj l o') := Kr.of (Kq.b w hbx W l o o' hl h hc hw)
theorem Kr.set (hne : b1 ≠ b2) (u : Value) : Kr b1 b2 A (A.setCell ⟨b2, 0, none⟩ u) := by
  have hs := run_setOwn A b2 u
  refine ⟨hs.size, fun g cs t fr hg _ h2 _ => (hs.block g (Array.getElem?_eq_some_iff.1 hg).1 (fun e => h2 (Option.some.inj e))).trans hg, .inl ?_⟩
  unfold ob
  rw [World.cell?_of_block (w := A) (w' := A.setCell ⟨b2, 0, none⟩ u) (a := ⟨b1, 0, none⟩) (heap_setCell_other A ⟨b2, 0, none⟩ b1 u (fun e => hne e))]
end
/-- The slot of the last entry. -/
def lastS (pre : List En) : Int := (pre.getLast?.map fun x => wSl x.h).getD (-1)
theorem lastS_app {pre : List En} {x : En} : lastS (pre ++ [x]) = wSl x.h := by simp [lastS]
/-- Entries in ascending order of their slots. -/
def Asc (L : List En) : Prop := L.Pairwise fun a b => wSl a.h < wSl b.h
theorem Asc.last {L pre : List En} {x : En} (h : Asc L) (hp : pre = L.take pre.length) (hx : L[pre.length]? = some x) : lastS pre < wSl x.h := by
  have hb := wSl_bd (x := x.h)
  unfold lastS
  rcases hl : pre.getLast? with _ | y
  · simp
    omega
  · simp only [Option.map_some, Option.getD_some]
    have hy : y ∈ L.take pre.length := by
      rw [← hp]
      exact List.mem_of_getLast? hl
    obtain ⟨i, hi, e⟩ := List.mem_take_iff_getElem.1 hy
    obtain ⟨hk, e2⟩ := List.getElem?_eq_some_iff.1 hx
    have := List.pairwise_iff_getElem.1 h i pre.length (by omega) hk (by omega)
    rw [e, e2] at this
    exact this
/-- What the law's loop knows between two rounds. -/
structure Lt (w : World) (L : List En) (pre : List En) (W : World) : Prop where
  bel : Below w.heap.size w W
  res : Cel W w.heap.size 55 (.slice none 0 0)
  row : ∃ A n c, Bxr en5 55 44 (w.heap.size + 1) W A n c pre
  lst : Cel W (w.heap.size + 2) 3 (.int .i64 (lastS pre))
  pre : pre = L.take pre.length
theorem Cel.grown {W W' : World} {b : Nat} {t : TypeId} {v : Value} {row : Option Nat} (h : Cel W b t v) (hg : W.grownBy W' row) (hr : ∀ r, row = some r → ∃ o : Obj, W.heap[r]? = some o ∧ o.isCells = false) : Cel W' b t v := by
  refine (hg.block b h.lt (fun e => ?_)).trans h
  obtain ⟨o, ho1, ho2⟩ := hr b e.symm
  unfold Cel at h
  rw [h] at ho1
  cases ho1
  simp [Obj.isCells] at ho2
theorem EnB.grown {W W' : World} {b : Nat} {h o t f l : Int} {row : Option Nat} (H : EnB W b h o t f l) (hg : W.grownBy W' row) (hr : ∀ r, row = some r → ∃ o : Obj, W.heap[r]? = some o ∧ o.isCells = false) : EnB W' b h o t f l := by
  refine (hg.block b H.lt (fun e => ?_)).trans H
  obtain ⟨o, ho1, ho2⟩ := hr b e.symm
  unfold EnB at H
  rw [H] at ho1
  cases ho1
  simp [Obj.isCells] at ho2
theorem lt_own {w : World} {L : List En} {N : Nat} (hw : w.heap.size ≤ N) : OwnFrom N (Lt w L) := fun s W W' row h hg hr => by
  obtain ⟨h1, h2, ⟨A, n, c, h3⟩, h4, h5⟩ := h
  have hr' : ∀ r, row = some r → ∃ o : Obj, W.heap[r]? = some o ∧ o.isCells = false := fun r e => (hr r e).2
  exact ⟨h1.grown hg h1.size (fun r e => Nat.le_trans hw (hr r e).1), h2.grown hg hr', ⟨A, n, c, h3.grown hg hr'⟩, h4.grown hg hr', h5⟩
/-- A store into the second box. -/
theorem Lt.step {w W : World} {pre : List En} {A : Option Addr} {n c : Nat} (hb : Bxr en5 55 44 (w.heap.size + 1) W A n c pre) (hl : Cel W (w.heap.size + 2) 3 (.int .i64 (lastS pre))) (u : Value) :
    Bxr en5 55 44 (w.heap.size + 1) (W.setCell ⟨w.heap.size + 2, 0, none⟩ u) A n c pre := by
  refine ⟨hb.cel.other (by omega) u, OwnK.kept hb.own (run_setOwn W (w.heap.size + 2) u) ?_⟩
  rcases ho : (Value.slice A n c).ownBlock with _ | g
  · exact .inl rfl
  · refine .inr fun e => ?_
    obtain rfl := Option.some.inj e
    obtain ⟨cs, hcs⟩ := hb.own.cells_at ho
    unfold Cel at hl
    rw [hl] at hcs
    injection hcs with h1
    injection h1 with h2 h3 h4
    exact absurd h3 (by decide)
theorem Bxr.ne {W : World} {bx : Nat} {A : Option Addr} {n c b : Nat} {pre : List En} {v : Value} {t : TypeId} (hb : Bxr en5 55 44 bx W A n c pre) (hl : Cel W b t v) (ht : t ≠ 44) : ob bx W ≠ some b := fun e => by
  unfold ob at e
  rw [hb.cel.cell] at e
  obtain ⟨cs, hcs⟩ := hb.own.cells_at e
  unfold Cel at hl
  rw [hl] at hcs
  injection hcs with h1
  injection h1 with h2 h3 h4
  exact ht h3
theorem listed13_of (q : Option Addr) (L : List En) (w : World) (hn : L.length ≤ 1000000) (hu : ∀ x ∈ L, U64 x.h) (hA : Asc L)
    (hl : ∀ W, Below w.heap.size w W → Calls Try.prog 60 #[.pointer q] W (EnL W L)) : Calls Try.prog 24 #[.pointer q] w (EnL w L) := by
  obtain ⟨i0, hi0, hz0, hz1, hz2⟩ := info_parts infoEn
  have hb1 : Below w.heap.size w (w.alloc (.cells #[.slice none 0 0] 55)) := (Below.refl _ _).alloc (Nat.le_refl _) _
  have e1 : (w.alloc (.cells #[.slice none 0 0] 55)).heap.size = w.heap.size + 1 := by simp
  have hb2 : Below w.heap.size w ((w.alloc (.cells #[.slice none 0 0] 55)).alloc (.cells #[.slice none 0 0] 55)) := hb1.alloc hb1.size _
  have e2 : ((w.alloc (.cells #[.slice none 0 0] 55)).alloc (.cells #[.slice none 0 0] 55)).heap.size = w.heap.size + 2 := by simp
  have hb3 : Below w.heap.size w (((w.alloc (.cells #[.slice none 0 0] 55)).alloc (.cells #[.slice none 0 0] 55)).alloc (.cells #[.int .i64 (-1)] 3)) := hb2.alloc hb2.size _
  have e3 : (((w.alloc (.cells #[.slice none 0 0] 55)).alloc (.cells #[.slice none 0 0] 55)).alloc (.cells #[.int .i64 (-1)] 3)).heap.size = w.heap.size + 3 := by simp
  have c0 : Cel (((w.alloc (.cells #[.slice none 0 0] 55)).alloc (.cells #[.slice none 0 0] 55)).alloc (.cells #[.int .i64 (-1)] 3)) w.heap.size 55 (.slice none 0 0) :=
    ((Cel.new (w := w) (t := 55) (v := .slice none 0 0)).go ((Below.refl _ _).alloc (Nat.le_refl _) _)).go ((Below.refl _ _).alloc (Nat.le_refl _) _)
  have c1 := ((Cel.new (w := (w.alloc (.cells #[.slice none 0 0] 55))) (t := 55) (v := .slice none 0 0))).go ((Below.refl _ _).alloc (Nat.le_refl _) (.cells #[.int .i64 (-1)] 3))
  have c2 := Cel.new (w := ((w.alloc (.cells #[.slice none 0 0] 55)).alloc (.cells #[.slice none 0 0] 55))) (t := 3) (v := .int .i64 (-1))
  rw [e1] at c1
  rw [e2] at c2
  have HLT3 : Hid (Lt w L [] (((w.alloc (.cells #[.slice none 0 0] 55)).alloc (.cells #[.slice none 0 0] 55)).alloc (.cells #[.int .i64 (-1)] 3))) := Lib.hid ⟨hb3, c0, ⟨none, 0, 0, c1, OwnK.nil _ _ _ _⟩, c2, by simp⟩
  have HAL := Lib.hid (allT13_any q (((w.alloc (.cells #[.slice none 0 0] 55)).alloc (.cells #[.slice none 0 0] 55)).alloc (.cells #[.int .i64 (-1)] 3)))
  rw [e3] at HAL
  have HLV := Lib.hid hl
  have HU := Lib.hid hu
  have HA := Lib.hid hA
  clear hb1 hb2 hb3 c0 c1 c2 e1 e2 hl hu hA
  refine (callsIn_wide (n := 6)).1 ?_
  refine callsIn_of_wp_marks Try.func24 rfl trivial ?_ rfl
  refine wpIn_wide.2 ?_
  simp only [Try.ntmps24, List.size_toArray, List.length_cons, List.length_nil, Nat.reduceAdd, Nat.reduceSub, Array.replicate_succ, Array.replicate_zero, List.push_toArray, List.append_toArray, List.nil_append, List.cons_append]
  go_wp2_with fail
  generalize (((w.alloc (.cells #[.slice none 0 0] 55)).alloc (.cells #[.slice none 0 0] 55)).alloc (.cells #[.int .i64 (-1)] 3)) = w3 at *
  refine HAL.out.mono ?_
  rintro e w4 ⟨rfl, hw4⟩
  have hz4 : w4.heap.size = w.heap.size + 4 := by rw [hw4]; simp [e3]
  have HLT4 : Hid (Lt w L [] w4) := Lib.hid (by
    rw [hw4]
    exact lt_own (N := w.heap.size) (Nat.le_refl _) [] w3 _ none HLT3.out (World.grownBy_alloc w3 _ none) (fun r e => by cases e))
  have HQ4 : Hid (w4.cell? ⟨w.heap.size + 3, 0, none⟩ = some (.pointer q)) := Lib.hid (by
    rw [hw4, ← e3]
    exact cell_alloc rfl)
  clear hw4 HAL HLT3 e3
  go_wp2
  refine (wpIn_wide (n := 6)).1 ?_
  refine' range_told_box (Kp := Kr (w.heap.size + 1) (w.heap.size + 2)) rfl (by omega) (gf := 59) (lb := #[.pointer (some ⟨w.heap.size + 3, 0, none⟩)]) rfl trivial (enters_of Try.func59 (by kernel_rfl) rfl)
    (encs := fun x : En => #[.int .i64 (wSl x.h), .agg #[.int .u64 x.h, .int .i64 x.o, .int .i64 x.t, .int .i64 x.f, .int .i64 x.l]]) (fun _ => rfl) (fun pre x _ => L[pre.length]? = some x) (fun h k => h.t k) (fun W l o o' hl h hc hw => Kr.b w4 (by omega) W l o o' hl h hc hw) (S := fun xs => xs = L) ?seq
    (Lt w L) (lt_own (by omega)) HLT4.out _ (fun pre x b W => Lt w L pre W ∧ L[pre.length]? = some x ∧ EnB W b x.h x.o x.t x.f x.l) ?rr ?assign ?body ?done
  case seq =>
    intro l J W hW hJ hY h0
    refine run_tab 5 l (w.heap.size + 3) q L J W hn HU.out (by omega) (Kr (w.heap.size + 1) (w.heap.size + 2)) (fun g A => g ≠ w.heap.size + 1 ∧ g ≠ w.heap.size + 2 ∧ ob (w.heap.size + 1) A ≠ some g ∧ w.heap.size + 1 < A.heap.size) ?_ ?_ ?_ hJ hY ((hW.cell (p := ⟨w.heap.size + 3, 0, none⟩) (by simp only; omega)).trans HQ4.out) (HLV.out W (HLT4.out.bel.trans (hW.mono (by omega)))) h0
    · intro A B g cs t fr hk hs hcell
      refine ⟨hk.2.1 g cs t fr hcell hs.1 hs.2.1 hs.2.2.1, hs.1, hs.2.1, fun e => ?_, Nat.lt_of_lt_of_le hs.2.2.2 hk.1⟩
      rcases hk.2.2 with h | h
      · rw [h] at e
        exact hs.2.2.1 e
      · have := h g e
        have := (Array.getElem?_eq_some_iff.1 hcell).1
        omega
    · intro W' g hb hg
      have h1 := hW.size
      have h2 := hb.size
      refine ⟨by omega, by omega, fun e => ?_, by omega⟩
      obtain ⟨A, n, c, hbx⟩ := HLT4.out.row
      have h3 : ob (w.heap.size + 1) W' = ob (w.heap.size + 1) w4 := by
        unfold ob
        rw [hb.cell (p := ⟨w.heap.size + 1, 0, none⟩) (by simp only; omega), hW.cell (p := ⟨w.heap.size + 1, 0, none⟩) (by simp only; omega)]
      rw [h3] at e
      unfold ob at e
      rw [hbx.cel.cell] at e
      have := (hbx.own.ge e).2
      omega
    · intro A B g hb hg hs
      refine ⟨hs.1, hs.2.1, fun e => hs.2.2.1 ?_, Nat.lt_of_lt_of_le hs.2.2.2 hb.size⟩
      rw [← e]
      unfold ob
      rw [hb.cell (p := ⟨w.heap.size + 1, 0, none⟩) hs.2.2.2]
  case rr =>
    rintro pre x b s A B row ⟨h1, h2, h3⟩ hg hrow
    exact ⟨lt_own (by omega) _ _ _ row h1 hg hrow, h2, h3.grown hg (fun r e => (hrow r e).2)⟩
  case assign =>
    intro l pre x W hi hm
    obtain ⟨b, hb⟩ : ∃ b, W.heap.size = b := ⟨_, rfl⟩
    have hl1 : w.heap.size + 1 < W.heap.size := by
      obtain ⟨A, n, c, hbx⟩ := hi.row
      exact hbx.cel.lt
    have HKR : Hid (Kr (w.heap.size + 1) (w.heap.size + 2) W (W.alloc (.cells #[.int .u64 x.h, .int .i64 x.o, .int .i64 x.t, .int .i64 x.f, .int .i64 x.l] 44))) := Lib.hid (Kr.of (Kq.alloc hl1 _))
    have HFA : Hid (Lt w L pre (W.alloc (.cells #[.int .u64 x.h, .int .i64 x.o, .int .i64 x.t, .int .i64 x.f, .int .i64 x.l] 44)) ∧ L[pre.length]? = some x ∧ EnB (W.alloc (.cells #[.int .u64 x.h, .int .i64 x.o, .int .i64 x.t, .int .i64 x.f, .int .i64 x.l] 44)) b x.h x.o x.t x.f x.l) :=
      Lib.hid ⟨lt_own (N := w.heap.size) (Nat.le_refl _) _ _ _ none hi (World.grownBy_alloc W _ none) (fun r e => by cases e), hm, by rw [← hb]; exact EnB.new⟩
    clear hi hm
    gi_wp2
    refine ⟨(KeepsOthers.alloc _ _).from _, HKR.out, b, ?_, HFA.out⟩
    clear HFA HKR hb hl1
    clear W
    exact rfl
  case body =>
    rintro l pre x b W ⟨hi, hm, ht⟩
    have hux := HU.out x (List.mem_of_getElem? hm)
    have hls := HA.out.last hi.pre hm
    have hpl : pre.length < L.length := (List.getElem?_eq_some_iff.1 hm).1
    obtain ⟨A1, n1, c1, hbx⟩ := hi.row
    have hne : b ≠ w.heap.size + 2 := fun e => by
      have h1 := hi.lst
      unfold Cel at h1
      unfold EnB at ht
      rw [e, h1] at ht
      injection ht with h2
      injection h2 with h3 h4
      exact absurd h4 (by decide)
    have hbx1 := Lt.step hbx hi.lst (.int .i64 (wSl x.h))
    have hs1 := run_setOwn W (w.heap.size + 2) (.int .i64 (wSl x.h))
    have ht1 : EnB (W.setCell ⟨w.heap.size + 2, 0, none⟩ (.int .i64 (wSl x.h))) b x.h x.o x.t x.f x.l := (hs1.block b ht.lt (fun e => hne (Option.some.inj e))).trans ht
    have hc1 := hi.lst.set (.int .i64 (wSl x.h))
    have hr1 := hi.res.other (b' := w.heap.size + 2) (by omega) (.int .i64 (wSl x.h))
    have HS := Lib.hid (fun W => slotR_any x.h hux W)
    have d0 := hi.lst.cell
    have d1 := hi.lst.fr
    obtain ⟨g0, g1, g2, g3, g4⟩ := ht.cells
    obtain ⟨i0', i1', i2', i3', i4'⟩ := ht1.cells
    have j0 := hbx1.cel.cell
    have hlt0 : ¬ wSl x.h ≤ lastS pre := by omega
    have hlt1 : decide (wSl x.h ≤ lastS pre) = false := decide_eq_false hlt0
    have HY := Lib.hid (en_new (W.setCell ⟨w.heap.size + 2, 0, none⟩ (.int .i64 (wSl x.h))) x.h x.o x.t x.f x.l)
    have hz1' : (W.setCell ⟨w.heap.size + 2, 0, none⟩ (.int .i64 (wSl x.h))).heap.size = W.heap.size := by simp [World.setCell]
    rw [hz1'] at HY
    have HBX := Lib.hid hbx1
    have HCL := Lib.hid hc1
    have HRS := Lib.hid hr1
    have HBL := Lib.hid (hi.bel.setCell (p := ⟨w.heap.size + 2, 0, none⟩) (by simp only; omega) (.int .i64 (wSl x.h)))
    have HKR := Lib.hid (Kr.set (A := W) (b1 := w.heap.size + 1) (b2 := w.heap.size + 2) (by omega) (.int .i64 (wSl x.h)))
    have HPR : Hid (pre ++ [x] = L.take (pre ++ [x]).length) := Lib.hid (by
      rw [List.length_append, List.length_singleton, take_one hm, ← hi.pre])
    have hbz : w.heap.size + 1 < W.heap.size := hbx.cel.lt
    have HPL := Lib.hid hpl
    have j1 : ((W.setCell ⟨w.heap.size + 2, 0, none⟩ (.int .i64 (wSl x.h))).alloc (.cells #[.int .u64 x.h, .int .i64 x.o, .int .i64 x.t, .int .i64 x.f, .int .i64 x.l] 44)).cell? ⟨w.heap.size + 1, 0, none⟩ = some (.slice A1 n1 c1) := cell_under j0 _
    clear hi hm ht hbx hbx1 hs1 ht1 hc1 hr1 hux hls hpl
    gi_wp2
    refine ⟨trivial, (CallsIn.inRound l (callsIn_wide.2 (HS.out _))).mono ?_⟩
    rintro e w6 ⟨rfl, rfl⟩
    gi_wp2_with (gi_at_builtin; go_must (refine wpListIn_appK _ rfl (.tmp 22) (.tmp 24) 55 rfl Try.underlying55 hi0 hz0 rfl hz1 (by omega) (HBX.out.own.alloc _) rfl HY.out rfl (by have := HPL.out; omega) (by simp; omega) ?_); intro v3 w3' ho3 hg3 hn3; obtain ⟨A3, n3, c3, rfl, hx3⟩ := ho3.shape; have HAP := Lib.hid (HBX.out.app ho3 hg3 hn3); have e3 := HAP.out.1.cell; have f3 := HAP.out.1.fr; clear ho3 hg3 hn3 hx3)
    obtain ⟨_, k1, k2, k3, k4⟩ := HAP.out
    have hne1 := HBX.out.ne HCL.out (by decide)
    have hne0 : ob (w.heap.size + 1) (W.setCell ⟨w.heap.size + 2, 0, none⟩ (.int .i64 (wSl x.h))) ≠ some w.heap.size := fun e => by
      unfold ob at e
      rw [HBX.out.cel.cell] at e
      have := (HBX.out.own.ge e).1
      omega
    refine ⟨((KeepsOthers.setCell _ _ _).trans k2).from _, HKR.out.t (Kr.of k3), (HBL.out.trans (k4.mono (by omega))), k3.2.1 _ _ _ _ HRS.out (by omega) hne0, ⟨A3, n3, c3, k1⟩, ?_, HPR.out⟩
    rw [lastS_app]
    exact k3.2.1 _ _ _ _ HCL.out (by omega) hne1
  case done =>
    rintro D ys W hD rfl hi hK
    obtain ⟨A1, n1, c1, hbx⟩ := hi.row
    have e0 := hbx.cel.cell
    have e1 := hi.res.cell
    have f1 := hi.res.fr
    have hs := run_setOwn W w.heap.size (.slice A1 n1 c1)
    have hbx1 : Bxr en5 55 44 (w.heap.size + 1) (W.setCell ⟨w.heap.size, 0, none⟩ (.slice A1 n1 c1)) A1 n1 c1 ys := ⟨hbx.cel.other (by omega) _, OwnK.kept hbx.own hs (by
      rcases ho : (Value.slice A1 n1 c1).ownBlock with _ | g
      · exact .inl rfl
      · refine .inr fun e => ?_
        have := (hbx.own.ge ho).1
        have := Option.some.inj e
        omega)⟩
    have hr1 := hi.res.set (.slice A1 n1 c1)
    have hK0 : Df W D := hK
    have HKW := Lib.hid (hK0.set ⟨w.heap.size, 0, none⟩ (.slice A1 n1 c1))
    have HDw : Hid (w.heap.size ≤ D) := Lib.hid (by omega)
    have HB := Lib.hid (hi.bel.setCell (p := ⟨w.heap.size, 0, none⟩) (Nat.le_refl _) (.slice A1 n1 c1))
    have HC := Lib.hid hbx1
    have HR := Lib.hid hr1
    clear hK hK0 hD hi hbx hbx1 hs hr1
    dsimp only
    go_wp2
    refine leave_one HKW.out ?_
    have HBs := Lib.hid (HKW.out.below HDw.out HB.out (.deferred none))
    have HOs := Lib.hid (HC.out.grown (grownBy_putObj' _ D (.deferred none)) (fun r e => by cases e; exact ⟨_, HKW.out, rfl⟩)).own
    have k0 := (HR.out.put HKW.out (.deferred none)).cell
    refine ⟨.slice A1 n1 c1, ?_, _, rfl, HOs.out.down (by omega), HBs.out⟩
    simp [results, Try.f24, go_sem, k0]
theorem Ht.upto_slot {t : Ht} {N : Nat} (H : t.Wf N) (hN : N ≤ 16777216) : ∀ {n : Nat}, ∀ x ∈ t.upto n, U64 x.h ∧ 0 ≤ wSl x.h ∧ wSl x.h < (n : Int) := by
  intro n x hx
  unfold Ht.upto at hx
  obtain ⟨j, hj, e⟩ := List.mem_filterMap.1 hx
  have hjn := List.mem_range.1 hj
  split at e
  · rename_i hl
    obtain rfl := Option.some.inj e
    obtain ⟨_, h2, h3⟩ := H.valid hN hl
    rw [h3]
    exact ⟨h2, by omega, by omega⟩
  · cases e
theorem Ht.upto_asc {t : Ht} {N : Nat} (H : t.Wf N) (hN : N ≤ 16777216) : ∀ n : Nat, Asc (t.upto n) := by
  intro n
  induction n with
  | zero => exact List.Pairwise.nil
  | succ n ih =>
    rw [Ht.upto_next]
    refine List.pairwise_append.2 ⟨ih, ?_, fun a ha b hb => ?_⟩
    · split
      · exact List.pairwise_singleton _ _
      · exact List.Pairwise.nil
    · split at hb
      · rename_i hl
        obtain rfl := List.mem_singleton.1 hb
        have h1 := (Ht.upto_slot H hN a ha).2.2
        rw [(H.valid hN hl).2.2]
        exact h1
      · cases hb
theorem listedT_any (w : World) (c : Nat → Nat) (k p N : Nat) (t : Ht) (H : Htb w c k p t) (hW : t.Wf N) (hN : N ≤ 4096) : Calls Try.prog 24 #[.pointer (some ⟨p, 0, none⟩)] w (EnL w t.all) :=
  listed13_of _ t.all w (by have := Ht.upto_len (t := t) (n := t.e.length); have := hW.el; unfold Ht.all; omega) (fun x hx => (Ht.upto_slot hW (by omega) x hx).1) (Ht.upto_asc hW (by omega) _) (fun W hb => liveT_any W c k p N t (H.go hb) hW hN)
end Go.Proofs.Ytaoojgnkbcoggaa
