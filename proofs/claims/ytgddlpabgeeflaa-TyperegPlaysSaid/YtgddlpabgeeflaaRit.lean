/-
  Contract of the registry's iterator: it hands each type over in memory of its own. Conditions: at most 255 types, each with at most forty fields.
-/
import Derived.Test.YtgddlpabgeeflaaTel
import Derived.Test.YtgddlpabgeeflaaRgl
namespace Go.Proofs.Ytgddlpabgeeflaa
open Go.ChangeShapes Go.WideShapes Go.ChangeAt Go.RowKit Go.Shelf
attribute [local go_sem] Oper.semAt_some
set_option linter.unusedVariables false
set_option maxHeartbeats 4000000
set_option maxRecDepth 100000

/-- What a round keeps: all cells but those of one block. -/
def Ko (kb : Nat) (A B : World) : Prop := A.heap.size ≤ B.heap.size ∧ ∀ (g : Nat) (cs : Array Value) (t : TypeId) (fr : Nat × Nat), g ≠ kb → A.heap[g]? = some (.cells cs t fr) → B.heap[g]? = some (.cells cs t fr)
section
variable {kb : Nat} {A B C : World}
theorem Ko.refl : Ko kb A A := ⟨Nat.le_refl _, fun _ _ _ _ _ h => h⟩
theorem Ko.t (h : Ko kb A B) (k : Ko kb B C) : Ko kb A C := ⟨Nat.le_trans h.1 k.1, fun g cs t fr hg hc => k.2 g cs t fr hg (h.2 g cs t fr hg hc)⟩
theorem Ko.b (W : World) (l : Nat) (o o' : Obj) (h : W.heap[l]? = some o) (hc : o.isCells = false) : Ko kb W (W.putObj l o') :=
  ⟨by simp, fun g cs t fr _ hcell => by
    have hne : g ≠ l := fun e => by
      rw [e, h] at hcell
      cases hcell
      simp [Obj.isCells] at hc
    rw [World.putObj_heap_other hne]
    exact hcell⟩
theorem Ko.below (h : Below A.heap.size A B) : Ko kb A B := ⟨h.size, fun g cs t fr _ hcell => by
  rw [h.block g (Array.getElem?_eq_some_iff.1 hcell).1]
  exact hcell⟩
theorem Ko.set (u : Value) : Ko kb A (A.setCell ⟨kb, 0, none⟩ u) := ⟨by simp, fun g cs t fr hg hcell => by
  rw [(grownBy_setCell' A kb u).block g (Array.getElem?_eq_some_iff.1 hcell).1 (fun e => hg (by cases e; rfl))]
  exact hcell⟩
theorem Ko.cell (h : Ko kb A B) {b o : Nat} {v : Value} (hb : b ≠ kb) (hc : A.cell? ⟨b, o, none⟩ = some v) : B.cell? ⟨b, o, none⟩ = some v := by
  have : ∃ cs t fr, A.heap[b]? = some (.cells cs t fr) := by
    unfold World.cell? at hc
    split at hc
    · exact ⟨_, _, _, by assumption⟩
    · cases hc
  obtain ⟨cs, t, fr, hh⟩ := this
  rw [← hc]
  exact World.cell?_of_block ((h.2 b cs t fr hb hh).trans hh.symm)
end
theorem below_grown {w w' : World} (h : Below w.heap.size w w') (r : Option Nat) : w.grownBy w' r := ⟨h.os, h.tape, h.output, h.size, fun k hk _ => h.block k hk⟩
theorem Exs.ko {kb B m c : Nat} {W W' : World} {A : Option Addr} {l : List (Int × Int)} (h : Exs W B A m c l) (hk : Ko kb W W') (hB : B ≤ kb) : Exs W' B A m c l :=
  ⟨h.len, h.cap, h.small, h.nil, h.fits, fun hm => by
    obtain ⟨b, o, e, hb, hc⟩ := h.cells hm
    exact ⟨b, o, e, hb, fun i x hx => ⟨hk.cell (by omega) (hc i x hx).1, hk.cell (by omega) (hc i x hx).2⟩⟩⟩
theorem Kws.ko {kb B m c : Nat} {W W' : World} {A : Option Addr} {l : List Ty} (h : Kws tyE W B A m c l) (hk : Ko kb W W') (hB : B ≤ kb) : Kws tyE W' B A m c l :=
  ⟨h.len, h.cap, h.small, h.nil, fun hm => by
    obtain ⟨b, o, e, hb, hc⟩ := h.cells hm
    exact ⟨b, o, e, hb, fun p u hu => hk.cell (by omega) (hc p u hu)⟩⟩
/-- A round's element: the tag and the type. -/
def enT (x : Int × Ty) : Array Value := #[.int .i64 x.1, .agg #[.int .i64 x.2.n, .slice x.2.A x.2.m x.2.c]]
/-- What a round may read of its element. -/
def MT (T : List (Int × List (Int × Int))) (pre : List (Int × Ty)) (x : Int × Ty) (W : World) : Prop := x.1 = (pre.length : Int) + 1 ∧ T[pre.length]? = some x.2.t ∧ Exs W W.heap.size x.2.A x.2.m x.2.c x.2.l
theorem run_all (d lp Bb p kb B : Nat) (A : Option Addr) (n c : Nat) (rs : List Ty) (J : List (Int × Ty) → World → Prop) (W : World) (hn : n ≤ 255) (hd : 1 ≤ d) (hB : B ≤ kb) (hBW : kb < W.heap.size) (hsm : Sm (tys rs)) (hJ : AbidesFrom W.heap.size J)
    (hY : ∀ pre x W1, J pre W1 → MT (tys rs) pre x W1 → YieldAt Fence.wide (d - 1) Try.prog lp (enT x) W1 fun e W' => e = .returned (.bool true) ∧ J (pre ++ [x]) W' ∧ Ko kb W1 W')
    (hc : W.cell? ⟨Bb, 0, none⟩ = some (.pointer (some ⟨p, 0, none⟩))) (hc1 : W.cell? ⟨p, 0, none⟩ = some (.slice A n c)) (hk : Kws tyE W B A n c rs) (hf : Flw W B rs) (h0 : J [] W) :
    CallsIn Fence.wide d Try.prog 28 #[.func (.yield lp) #[] #[], .pointer (some ⟨Bb, 0, none⟩)] W fun e W' => (∃ v, e = .returned v) ∧ ∃ xs, xs.length = n ∧ J xs W' := by
  have HJ := Lib.hid hJ
  have HY := Lib.hid hY
  have HK := Lib.hid hk
  have HF := Lib.hid hf
  have H0 := Lib.hid h0
  have HSM := Lib.hid hsm
  have hcap := hk.cap
  have hsmv := hk.small
  unfold maxLen at hsmv
  clear hJ hY hk hf h0 hsm
  refine callsIn_of_wp Try.func28 rfl trivial ?_ rfl
  simp only [Try.ntmps28, List.size_toArray, List.length_cons, List.length_nil, Nat.reduceAdd, Nat.reduceSub, Array.replicate_succ, Array.replicate_zero, List.push_toArray, List.append_toArray, List.nil_append, List.cons_append]
  gi_wp2
  gi_loopw [12] (fun i wr => ∃ j : Nat, j ≤ n ∧ i = .int .i64 j ∧ Hid (∃ pre, pre.length = j ∧ J pre wr ∧ Ko kb W wr)) (fun i _ => n - (intOf i).toNat)
  case atStart => exact ⟨0, by omega, rfl, Lib.hid ⟨[], rfl, H0.out, Ko.refl⟩⟩
  case round =>
    obtain ⟨j, hj, rfl, hh⟩ := hrel
    obtain ⟨pre, hpl, hjp, hko⟩ := hh.out
    clear hh
    by_cases hjn : j < n
    · have hj1 : (j : Int) < (n : Int) := by omega
      have hj0 : (0 : Int) ≤ (j : Int) := by omega
      have hj2 : IntKind.i64.wrap ((j : Int) + 1) = (j : Int) + 1 := by rw [IntKind.wrap_i64]; omega
      obtain ⟨b, o, r, hr, rfl, hb, g0, g1⟩ := (HK.out.ko hko hB).ty hjn
      have hrm := List.mem_of_getElem? hr
      have hrx := ((HF.out r hrm).ko hko hB).more (B' := wr.heap.size) (by have := hko.1; omega)
      have hr40 : r.m ≤ 40 := by
        have h8 := HSM.out r.t (List.mem_map.2 ⟨r, hrm, rfl⟩)
        have h9 := hrx.len
        simp only [Ty.t] at h8
        omega
      have HT := Lib.hid (tys_at hr)
      have hb1 : Below wr.heap.size wr (wr.alloc (.cells #[.int .i64 r.n, .slice r.A r.m r.c] 35)) := (Below.refl _ _).alloc (Nat.le_refl _) _
      have HCL := Lib.hid ((callsIn_wide (n := d - 1)).2 (cloneT_any r.n r.A r.m r.c r.l _ (hrx.go hb1) (by omega)))
      have HJ1 := Lib.hid (HJ.out _ _ _ none hjp (World.grownBy_alloc wr (.cells #[.int .i64 r.n, .slice r.A r.m r.c] 35) none) (fun r e => by cases e))
      have HKO1 := Lib.hid (hko.t (Ko.below hb1))
      have HPL := Lib.hid hpl
      clear hr hrm hrx hb hjp hko hb1 hpl
      obtain ⟨rn, rA, rm, rc_, rl⟩ := r
      simp only [Ty.t] at HT HCL HJ1 HKO1 g0 g1 hr40
      gi_wp2
      refine ⟨trivial, HCL.out.mono ?_⟩
      generalize wr.alloc (.cells #[.int .i64 rn, .slice rA rm rc_] 35) = w1 at *
      rintro e w2 ⟨A2, m2, c2, rfl, ho2, hb2⟩
      have HJ2 := Lib.hid (HJ.out _ _ _ none HJ1.out (below_grown hb2 none) (fun r e => by cases e))
      have HKO2 := Lib.hid (HKO1.out.t (Ko.below hb2))
      obtain ⟨fn, tmps, assign, body, hy, hR⟩ := HY.out pre ((j : Int) + 1, ⟨rn, A2, m2, c2, rl⟩) w2 HJ2.out ⟨by rw [HPL.out], by rw [HPL.out]; exact HT.out, ho2.exs⟩
      unfold enT at hy
      dsimp only at hy
      clear ho2 hb2 HCL HJ1 HKO1 HT g0 g1
      gi_wp2
      refine hR.mono ?_
      rintro e W3 ⟨rfl, hJ3, hk3⟩
      have HJ3 := Lib.hid hJ3
      have HKO3 := Lib.hid (HKO2.out.t hk3)
      clear hJ3 hk3 hR hy
      gi_wp2
      go_roundw
      case rel => exact ⟨j + 1, by omega, by go_num, Lib.hid ⟨_, by rw [List.length_append, HPL.out]; rfl, HJ3.out, HKO3.out⟩⟩
      case measure => simp [intOf]; omega
    · obtain rfl : j = n := by omega
      have HH := Lib.hid (And.intro hpl hjp)
      clear hpl hjp hko
      gi_wp2
      go_end0
      exact ⟨⟨_, rfl⟩, _, HH.out.1, HH.out.2⟩
end Go.Proofs.Ytgddlpabgeeflaa
