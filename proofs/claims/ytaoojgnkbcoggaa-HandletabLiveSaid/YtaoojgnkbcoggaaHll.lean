/-
  Contracts of the iterator of a table and of the law's list of what it runs over. Conditions: at most a million live entries, in ascending order of their slots.
-/
import Derived.Test.YtaoojgnkbcoggaaHlv
import Derived.Test.YtaoojgnkbcoggaaRtl
import Derived.Test.YtaoojgnkbcoggaaTel
import Derived.Test.YtaoojgnkbcoggaaKqx
namespace Go.Proofs.Ytaoojgnkbcoggaa
open Go.ChangeShapes Go.WideShapes Go.ChangeAt Go.RowKit Go.Shelf
attribute [local go_sem] Oper.semAt_some
set_option linter.unusedVariables false
set_option linter.unusedSimpArgs false
set_option maxHeartbeats 4000000
set_option maxRecDepth 100000

/-- What the iterator hands over. -/
def encE (x : En) : Array Value := #[.int .i64 (wSl x.h), .agg #[.int .u64 x.h, .int .i64 x.o, .int .i64 x.t, .int .i64 x.f, .int .i64 x.l]]
theorem allT13_any (q : Option Addr) (w : World) : Calls Try.prog 48 #[.pointer q] w fun e w' => e = .returned (.func (.func 59) #[] #[.pointer (some ⟨w.heap.size, 0, none⟩)]) ∧ w' = w.alloc (.cells #[.pointer q] 24) := by
  have hmf : ∀ (fn : Fn) (first cap : Array Value) (w : World), (Instr.makeFunc fn first cap).run Try.prog w = .ok (.func fn first cap) w := fun _ _ _ _ => rfl
  go_enter Try.func48, Try.ntmps48
  go_wp2
  go_ret
  exact ⟨rfl, rfl⟩
/-- The iterator of a table. K: what a round keeps; Safe: the blocks that a round leaves as they are. -/
theorem run_tab (d lp Bb : Nat) (q : Option Addr) (L : List En) (J : List En → World → Prop) (W : World) (hn : L.length ≤ 1000000) (hu : ∀ x ∈ L, U64 x.h) (hd : 1 ≤ d) (K : World → World → Prop) (Safe : Nat → World → Prop)
    (hKs : ∀ A B g cs t fr, K A B → Safe g A → A.heap[g]? = some (.cells cs t fr) → B.heap[g]? = some (.cells cs t fr) ∧ Safe g B) (hS0 : ∀ W' g, Below W.heap.size W W' → W.heap.size ≤ g → Safe g W') (hSb : ∀ A B g, Below A.heap.size A B → g < A.heap.size → Safe g A → Safe g B)
    (hJ : AbidesFrom W.heap.size J)
    (hY : ∀ pre x W1, J pre W1 → L[pre.length]? = some x → YieldAt Fence.wide (d - 1) Try.prog lp (encE x) W1 fun e W' => e = .returned (.bool true) ∧ J (pre ++ [x]) W' ∧ K W1 W')
    (hc : W.cell? ⟨Bb, 0, none⟩ = some (.pointer q)) (hl : Calls Try.prog 60 #[.pointer q] W (EnL W L)) (h0 : J [] W) :
    CallsIn Fence.wide d Try.prog 59 #[.func (.yield lp) #[] #[], .pointer (some ⟨Bb, 0, none⟩)] W fun e W' => (∃ v, e = .returned v) ∧ ∃ ys, ys = L ∧ J ys W' := by
  have H := Lib.hid ((callsIn_wide (n := d - 1)).2 hl)
  have HJ := Lib.hid hJ
  have HY := Lib.hid hY
  have H0 := Lib.hid h0
  have HKS := Lib.hid hKs
  have HS0 := Lib.hid hS0
  have HSB := Lib.hid hSb
  have HU := Lib.hid hu
  clear hJ hY h0 hKs hS0 hSb hl hu
  refine callsIn_of_wp Try.func59 rfl trivial ?_ rfl
  simp only [Try.ntmps59, List.size_toArray, List.length_cons, List.length_nil, Nat.reduceAdd, Nat.reduceSub, Array.replicate_succ, Array.replicate_zero, List.push_toArray, List.append_toArray, List.nil_append, List.cons_append]
  gi_wp2
  refine ⟨trivial, H.out.mono ?_⟩
  rintro e w2 ⟨v, rfl, ho, hb⟩
  obtain ⟨A2, n2, c2, rfl, hx2⟩ := ho.shape
  have HLN := Lib.hid hx2.len
  have hn2 : n2 ≤ 1000000 := by have := HLN.out; omega
  have hcap := hx2.cap
  have hsm := hx2.small
  unfold maxLen at hsm
  have HO2 := Lib.hid ho
  have HJ2 : Hid (J [] w2) := Lib.hid (HJ.out _ _ _ none H0.out (below_grown hb none) (fun r e => by cases e))
  have HSF : Hid (∀ g, (Value.slice A2 n2 c2).ownBlock = some g → Safe g w2) := Lib.hid (fun g hg => HS0.out w2 g hb (ho.ge hg).1)
  clear H ho hb hx2 hc HS0 H0 hn
  gi_wp2
  gi_loopw [8] (fun i wr => ∃ j : Nat, j ≤ n2 ∧ i = .int .i64 j ∧ Hid (J (L.take j) wr ∧ OwnK en5 44 wr W.heap.size (.slice A2 n2 c2) L ∧ ∀ g, (Value.slice A2 n2 c2).ownBlock = some g → Safe g wr)) (fun i _ => n2 - (intOf i).toNat)
  case atStart => exact ⟨0, by omega, rfl, Lib.hid ⟨HJ2.out, HO2.out, HSF.out⟩⟩
  case round =>
    obtain ⟨j, hj, rfl, hh⟩ := hrel
    by_cases hjn : j < n2
    · have HJ0 := Lib.hid hh.out.1
      have HO0 := Lib.hid hh.out.2.1
      have HF0 := Lib.hid hh.out.2.2
      obtain ⟨A', n', c', e', hks⟩ := HO0.out.shape
      cases e'
      obtain ⟨b, o, x, hx, rfl, hb, g0, g1, g2, g3, g4⟩ := hks.en_at hjn
      have HX := Lib.hid hx
      have HUX := Lib.hid (HU.out x (List.mem_of_getElem? hx))
      have hj1 : (j : Int) < (n2 : Int) := by omega
      have HTL : Hid ((L.take j).length = j) := Lib.hid (by have := HLN.out; rw [List.length_take]; omega)
      have HJ1 := Lib.hid (HJ.out _ _ _ none HJ0.out (World.grownBy_alloc wr (.cells #[.int .u64 x.h, .int .i64 x.o, .int .i64 x.t, .int .i64 x.f, .int .i64 x.l] 44) none) (fun r e => by cases e))
      have HO1 := Lib.hid (HO0.out.alloc (.cells #[.int .u64 x.h, .int .i64 x.o, .int .i64 x.t, .int .i64 x.f, .int .i64 x.l] 44))
      have HE1 := Lib.hid (EnB.new (w := wr) (h := x.h) (o := x.o) (t := x.t) (f := x.f) (l := x.l))
      have HF1 : Hid (∀ g, (Value.slice (some ⟨b, o, none⟩) n2 c2).ownBlock = some g → Safe g (wr.alloc (.cells #[.int .u64 x.h, .int .i64 x.o, .int .i64 x.t, .int .i64 x.f, .int .i64 x.l] 44))) := Lib.hid (fun g hg => HSB.out _ _ g ((Below.refl _ _).alloc (Nat.le_refl _) _) (HO0.out.ge hg).2 (HF0.out g hg))
      clear hx hb hh hks HJ0 HO0 HF0
      gi_wp2
      generalize wr.alloc (.cells #[.int .u64 x.h, .int .i64 x.o, .int .i64 x.t, .int .i64 x.f, .int .i64 x.l] 44) = w1 at *
      generalize wr.heap.size = xb at *
      have HSQ : Hid (∀ z : Later w1, Calls Try.prog 35 #[.int .u64 x.h] z.val fun e w' => e = .returned (.int .i64 (wSl x.h)) ∧ Below z.val.heap.size z.val w') := Lib.hid (fun z => (slot_any x.h HUX.out z.val).mono fun e w' h => ⟨h.1, h.2 ▸ Below.refl _ _⟩)
      have a0 : ∀ z : Later w1, z.val.cell? ⟨xb, 0, none⟩ = some (.int .u64 x.h) := fun z => later_old z HE1.out.cells.1
      have a1 : ∀ z : Later w1, z.val.cell? ⟨xb, 1, none⟩ = some (.int .i64 x.o) := fun z => later_old z HE1.out.cells.2.1
      have a2 : ∀ z : Later w1, z.val.cell? ⟨xb, 2, none⟩ = some (.int .i64 x.t) := fun z => later_old z HE1.out.cells.2.2.1
      have a3 : ∀ z : Later w1, z.val.cell? ⟨xb, 3, none⟩ = some (.int .i64 x.f) := fun z => later_old z HE1.out.cells.2.2.2.1
      have a4 : ∀ z : Later w1, z.val.cell? ⟨xb, 4, none⟩ = some (.int .i64 x.l) := fun z => later_old z HE1.out.cells.2.2.2.2
      refine wide_region_tail 5 (by kernel_rfl) (by kernel_rfl) ?_
      simp only [List.take_succ_cons, List.take_zero, List.drop_succ_cons, List.drop_zero]
      repeat (go_big_quiet_step (first | (go_at_call 35; exact Calls.later (HSQ.out _))))
      refine wpQuiet_nil ?_
      rintro w4 ⟨⟨_, hq⟩, rfl⟩
      have HJ4 := Lib.hid (HJ.out _ _ _ none HJ1.out (below_grown hq none) (fun r e => by cases e))
      have HO4 := Lib.hid (HO1.out.below hq)
      have HF4 : Hid (∀ g, (Value.slice (some ⟨b, o, none⟩) n2 c2).ownBlock = some g → Safe g w4) := Lib.hid (fun g hg => HSB.out _ _ g hq (HO1.out.ge hg).2 (HF1.out g hg))
      obtain ⟨fn, tmps, assign, body, hy, hR⟩ := HY.out (L.take j) x w4 HJ4.out (by rw [HTL.out]; exact HX.out)
      unfold encE at hy
      clear a0 a1 a2 a3 a4 HSQ HJ1 HO1 HF1 HE1 hq g0 g1 g2 g3 g4
      gi_wp2
      refine hR.mono ?_
      rintro e W3 ⟨rfl, hJ3, hk3⟩
      have HJ3 := Lib.hid hJ3
      have HO3 := Lib.hid (HO4.out.same (fun g cs hg _ hcs => (HKS.out _ _ g cs _ _ hk3 (HF4.out g hg) hcs).1))
      have HF3 : Hid (∀ g, (Value.slice (some ⟨b, o, none⟩) n2 c2).ownBlock = some g → Safe g W3) := Lib.hid (fun g hg => by
        obtain ⟨cs, hcs⟩ := HO4.out.cells_at hg
        exact (HKS.out _ _ g cs _ _ hk3 (HF4.out g hg) hcs).2)
      clear hJ3 hk3 hR hy
      gi_wp2
      go_roundw
      case rel => exact ⟨j + 1, by omega, by go_num, Lib.hid ⟨by rw [take_one HX.out]; exact HJ3.out, HO3.out, HF3.out⟩⟩
      case measure => simp [intOf]; omega
    · obtain rfl : j = n2 := by omega
      have HF : Hid (L.take j = L) := Lib.hid (List.take_of_length_le (by have := HLN.out; omega))
      gi_wp2
      go_end0
      exact ⟨⟨_, rfl⟩, _, HF.out, hh.out.1⟩
end Go.Proofs.Ytaoojgnkbcoggaa
