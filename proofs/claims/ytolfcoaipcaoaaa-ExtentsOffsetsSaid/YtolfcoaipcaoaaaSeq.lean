/-
  Contracts of extents.Offsets and of the iterators that it returns: over a valid list all its offsets come, in ascending order; over another list none. Conditions: the lists have at most a thousand extents.
-/
import Derived.Test.YtolfcoaipcaoaaaInsOk
import Derived.RangeFuncNested
import Derived.RangeFuncBound
import Derived.RangeFuncCalls
import Derived.RangeFuncLeaves
import Derived.Shelf.Abstract
import Derived.Shelf.RegionOpen
import Derived.OwnWalkIn
import Derived.TacticsInMore
import Derived.LoopNIn
import Derived.LoopIn
namespace Go.Proofs.Ytolfcoaipcaoaaa
open Go.ChangeShapes Go.WideShapes Go.ChangeAt Go.RowKit Go.Shelf
attribute [local go_sem] Oper.semAt_some
set_option maxHeartbeats 2000000
set_option maxRecDepth 100000

/-- The first k offsets of an extent; all offsets of a list. -/
def fst_ (x : Int) (k : Nat) : List Int := (List.range k).map fun (i : Nat) => x + (i : Int)
def offs : List (Int × Int) → List Int
  | [] => []
  | x :: l => fst_ x.1 x.2.toNat ++ offs l
theorem fst_succ {x : Int} {k : Nat} : fst_ x (k + 1) = fst_ x k ++ [x + (k : Int)] := by simp [fst_, List.range_succ]
theorem fst_len {x : Int} {k : Nat} : (fst_ x k).length = k := by simp [fst_]
theorem fst_prefix {x : Int} {k m : Nat} (h : k ≤ m) : fst_ x k <+: fst_ x m := by
  unfold fst_
  refine ⟨((List.range m).drop k).map fun (i : Nat) => x + (i : Int), ?_⟩
  rw [← List.map_append]
  congr 1
  have h1 : (List.range m).take k = List.range k := by rw [List.take_range, Nat.min_eq_left h]
  rw [← h1, List.take_append_drop]
theorem offs_app {b : List (Int × Int)} : ∀ {a : List (Int × Int)}, offs (a ++ b) = offs a ++ offs b
  | [] => rfl
  | x :: a => by simp [offs, offs_app (a := a)]
theorem offs_take {l : List (Int × Int)} {k : Nat} {x : Int × Int} (h : l[k]? = some x) : offs (l.take (k + 1)) = offs (l.take k) ++ fst_ x.1 x.2.toNat := by
  rw [take_one h, offs_app]
  simp [offs]
theorem offs_prefix {l : List (Int × Int)} {k : Nat} : offs (l.take k) <+: offs l := by
  have := List.take_append_drop k l
  refine ⟨offs (l.drop k), ?_⟩
  rw [← offs_app, this]
theorem offs_part {l : List (Int × Int)} {k i : Nat} {x : Int × Int} (h : l[k]? = some x) (hi : i ≤ x.2.toNat) : offs (l.take k) ++ fst_ x.1 i <+: offs l := by
  refine List.IsPrefix.trans ?_ (offs_prefix (k := k + 1))
  rw [offs_take h]
  exact (List.prefix_append_right_inj _).2 (fst_prefix hi)

/-- What a round keeps: every block of cells from n₁ on. -/
def Kp (n₁ : Nat) (A B : World) : Prop := A.heap.size ≤ B.heap.size ∧ ∀ (g : Nat) (cs : Array Value) (t : TypeId) (fr : Nat × Nat), n₁ ≤ g → A.heap[g]? = some (.cells cs t fr) → B.heap[g]? = some (.cells cs t fr)
theorem Kp.refl (n₁ : Nat) (A : World) : Kp n₁ A A := ⟨Nat.le_refl _, fun _ _ _ _ _ h => h⟩
theorem Kp.t {n₁ : Nat} {A B C : World} (h : Kp n₁ A B) (k : Kp n₁ B C) : Kp n₁ A C := ⟨Nat.le_trans h.1 k.1, fun g cs t fr hg hc => k.2 g cs t fr hg (h.2 g cs t fr hg hc)⟩
theorem Kp.b {n₁ : Nat} (w : World) (W : World) (l : Nat) (o o' : Obj) (_hl : w.heap.size ≤ l) (h : W.heap[l]? = some o) (hc : o.isCells = false) (_hw : o.isWalk = false) : Kp n₁ W (W.putObj l o') :=
  ⟨by simp, fun g cs t fr _ hcell => by
    have hne : g ≠ l := fun e => by
      rw [e, h] at hcell
      cases hcell
      simp [Obj.isCells] at hc
    rw [World.putObj_heap_other hne]
    exact hcell⟩
theorem Kp.below {n₁ : Nat} {A B : World} (h : Below A.heap.size A B) : Kp n₁ A B :=
  ⟨h.size, fun g cs t fr _ hcell => by
    rw [h.block g (Array.getElem?_eq_some_iff.1 hcell).1]
    exact hcell⟩
theorem Kp.set {n₁ : Nat} {A : World} {b : Nat} (h1 : b < n₁) (u : Value) : Kp n₁ A (A.setCell ⟨b, 0, none⟩ u) :=
  ⟨by simp, fun g cs t fr hg hcell => by
    have := (grownBy_setCell' A b u).block g (Array.getElem?_eq_some_iff.1 hcell).1 (fun e => by cases e; omega)
    rw [this]
    exact hcell⟩
theorem OwnE.kp {t : TypeId} {A B : World} {n₁ : Nat} {v : Value} {l : List (Int × Int)} (h : OwnE t A n₁ v l) (hk : Kp n₁ A B) : OwnE t B n₁ v l := by
  refine ⟨⟨h.1.1, ?_⟩, h.2⟩
  rcases h.1.2 with h0 | ⟨g, cap, cur, e, hbg, hg, hnc, hm, hs, ht⟩
  · exact .inl h0
  · exact .inr ⟨g, cap, cur, e, hbg, hk.2 g _ _ _ hbg hg, hnc, hm, hs, ht⟩
theorem OwnE.exs {t : TypeId} {w : World} {base n c : Nat} {A : Option Addr} {l : List (Int × Int)} (h : OwnE t w base (.slice A n c) l) : Exs w w.heap.size A n c l := by
  obtain ⟨A', n', c', e, hx⟩ := h.shape
  cases e
  exact hx

theorem clone_any (A : Option Addr) (n c : Nat) (l : List (Int × Int)) (w : World) (h : Exs w w.heap.size A n c l) (hn : n ≤ 1000) :
    Calls Try.prog 40 #[.slice A n c] w (MadeE w l) := by
  obtain ⟨i0, hi, hz0, hz1, hz2⟩ := info_parts infoE
  have HX := Lib.hid h
  cases A with
  | none =>
    obtain rfl : c = 0 := h.nil rfl
    obtain rfl : n = 0 := by have := h.cap; omega
    obtain rfl : l = [] := List.eq_nil_of_length_eq_zero h.len
    have hq : ∀ W : World, (binOp .eql 22 (.slice none 0 0) (.slice none 0 0)).run Try.prog W = .ok (.bool true) W := fun W => Lib.run_eql_slice_nil W _ _ none 0 0 0 0 Try.underlying22
    clear h
    go_enter Try.func40, Try.ntmps40
    go_wp2
    go_ret
    exact ⟨_, rfl, OwnE.nil _ _ _, Below.refl _ _⟩
  | some a =>
    have hq : ∀ W : World, (binOp .eql 22 (.slice (some a) n c) (.slice none 0 0)).run Try.prog W = .ok (.bool false) W := fun W => Lib.run_eql_slice_nil W _ _ (some a) n c 0 0 Try.underlying22
    have HO : Hid (OwnE 31 (w.alloc (.cells #[] 31)) w.heap.size (.slice (some ⟨w.heap.size, 0, none⟩) 0 0) []) := Lib.hid ⟨World.ownsRow_made w #[] 0 (Nat.le_refl _) (Nat.zero_le _) rfl, Fits.nil⟩
    clear h
    go_enter Try.func40, Try.ntmps40
    go_wp2_with (at_builtin; go_must (refine wpList_appE _ rfl (.tmp 5) (.tmp 6) 22 rfl Try.underlying22 hi hz0 rfl hz1 (by omega) HO.out rfl (HX.out.alloc _) rfl (by simp; omega) (by simp) ?_); intro v2 w2 ho2 hb2 hg2)
    go_ret
    exact ⟨_, rfl, ho2, ((Below.refl _ _).alloc (Nat.le_refl _) _).trans hb2⟩

/-- The iterator over a valid list. -/
theorem run_any (d : Nat) (lp Bs n₁ : Nat) (A : Option Addr) (n c : Nat) (l : List (Int × Int)) (J Jx : List Int → World → Prop) (W : World) (hv : Va (-1) l) (hn : n ≤ 1000) (hd : 1 ≤ d) (hn₁ : n₁ ≤ W.heap.size)
    (hJ : AbidesFrom W.heap.size J)
    (hY : ∀ pre x W1, J pre W1 → pre.length < (offs l).length → YieldAt Fence.wide (d - 1) Try.prog lp #[.int .i64 x] W1 fun e W' =>
      (e = .returned (.bool true) ∧ J (pre ++ [x]) W' ∧ Kp n₁ W1 W') ∨ (e = .returned (.bool false) ∧ Jx (pre ++ [x]) W'))
    (hc : W.cell? ⟨Bs, 0, none⟩ = some (.slice A n c)) (ho : OwnE 31 W n₁ (.slice A n c) l) (h0 : J [] W) :
    CallsIn Fence.wide d Try.prog 41 #[.func (.yield lp) #[] #[], .pointer (some ⟨Bs, 0, none⟩)] W fun e W' => (∃ v, e = .returned v) ∧
      ((∃ ys, ys = offs l ∧ J ys W') ∨ (∃ pre, pre <+: offs l ∧ Jx pre W')) := by
  have hx := ho.exs
  have HX := Lib.hid ho
  have HV := Lib.hid hv
  have HJ := Lib.hid hJ
  have HY := Lib.hid hY
  have H0 := Lib.hid h0
  have hcap := hx.cap
  have hsm := hx.small
  have HLN := Lib.hid hx.len
  unfold maxLen at hsm
  clear hx ho hv hJ hY h0
  refine callsIn_of_wp Try.func41 rfl trivial ?_ rfl
  simp only [Try.ntmps41, List.size_toArray, List.length_cons, List.length_nil, Nat.reduceAdd, Nat.reduceSub, Array.replicate_succ, Array.replicate_zero, List.push_toArray, List.append_toArray, List.nil_append, List.cons_append]
  gi_wp2
  gi_loopw [8] (fun i wr => ∃ j : Nat, j ≤ n ∧ i = .int .i64 j ∧ Hid (J (offs (l.take j)) wr ∧ Kp n₁ W wr)) (fun i _ => n - (intOf i).toNat)
  case atStart => exact ⟨0, by omega, rfl, Lib.hid ⟨H0.out, Kp.refl _ _⟩⟩
  case round =>
    obtain ⟨j, hj, rfl, hh⟩ := hrel
    by_cases hjn : j < n
    · obtain ⟨b, o, u, v, hu, rfl, hb, hc1, hc2, _⟩ := (HX.out.kp hh.out.2).exs.at_ hjn
      have HPU := Lib.hid (va_at HV.out hu).1
      have HU := Lib.hid hu
      have u1 := HPU.out.1
      have u2 := HPU.out.2.1
      have u3 := HPU.out.2.2
      simp only at u1 u2 u3
      have hj1 : (j : Int) < (n : Int) := by omega
      have HE0 := Lib.hid (Box.new (w := wr) (x := u) (y := v))
      have HJ0 := Lib.hid (HJ.out _ _ _ none hh.out.1 (World.grownBy_alloc wr (.cells #[.int .i64 u, .int .i64 v] 31) none) (fun r e => by cases e))
      have HB0 : Hid (Kp n₁ W (wr.alloc (.cells #[.int .i64 u, .int .i64 v] 31))) := Lib.hid (hh.out.2.t (Kp.below ((Below.refl _ _).alloc (Nat.le_refl _) _)))
      have hz0 := hh.out.2.1
      have hvn : (v.toNat : Int) = v := by omega
      obtain ⟨m, hm⟩ : ∃ m : Nat, m = v.toNat := ⟨_, rfl⟩
      rw [← hm] at hvn
      have HM := Lib.hid hm
      have hm1 : m ≤ 1048576 := by omega
      obtain rfl : v = (m : Int) := hvn.symm
      clear hu hb hh hm
      gi_wp2
      generalize hW1 : wr.alloc (.cells #[.int .i64 u, .int .i64 (m : Int)] 31) = w1 at *
      have hz1 : wr.heap.size < w1.heap.size := by rw [← hW1]; simp
      have he1 : n₁ ≤ wr.heap.size := Nat.le_trans hn₁ hz0
      clear hW1
      gi_loopw [14] (fun iv wq => ∃ i : Nat, i ≤ m ∧ iv = .int .i64 i ∧ Hid (J (offs (l.take j) ++ fst_ u i) wq ∧ Kp n₁ W wq ∧ Box wq wr.heap.size u m)) (fun iv _ => m - (intOf iv).toNat)
      case atStart => exact ⟨0, by omega, rfl, Lib.hid ⟨by simpa [fst_] using HJ0.out, HB0.out, HE0.out⟩⟩
      case round =>
        obtain ⟨i, hi, rfl, hh⟩ := hrel
        by_cases him : i < m
        · have hlen : (offs (l.take j) ++ fst_ u i).length < (offs l).length := by
            have h1 := (offs_part (i := i + 1) HU.out (by simp only; omega)).length_le
            simp only [List.length_append, fst_len] at h1 ⊢
            omega
          obtain ⟨fn, tmps, assign, body, hy, hR⟩ := HY.out _ (u + (i : Int)) wr hh.out.1 hlen
          have e0 := hh.out.2.2.cell0
          have him' : (i : Int) < (m : Int) := by omega
          have HH := Lib.hid hh.out.2
          have HBX := Lib.hid hh.out.2.2
          clear hh hlen
          gi_wp2
          refine hR.mono ?_
          rintro e W3 (⟨rfl, hJ3, hk3⟩ | ⟨rfl, hJx3⟩)
          · have HJ3 := Lib.hid hJ3
            have HB3 := Lib.hid (HH.out.1.t hk3)
            have HE3 : Hid (Box W3 _ u m) := Lib.hid (hk3.2 _ _ _ _ he1 HBX.out)
            clear hJ3 hk3 hR hy
            gi_wp2
            go_roundw
            case rel => exact ⟨i + 1, by omega, by go_num, Lib.hid ⟨by rw [fst_succ, ← List.append_assoc]; exact HJ3.out, HB3.out, HE3.out⟩⟩
            case measure => simp [intOf]; omega
          · have HJx3 := Lib.hid hJx3
            clear hJx3 hR hy
            gi_wp2
            refine bodyPost_ret (results_none rfl _ _ _) rfl ?_
            exact ⟨⟨_, rfl⟩, .inr ⟨_, by rw [List.append_assoc, ← fst_succ]; exact offs_part HU.out (by simp only; omega), HJx3.out⟩⟩
        · obtain rfl : i = m := by omega
          have him' : ¬ (i : Int) < (i : Int) := by omega
          gi_wp2
          go_roundw
          case rel => exact ⟨j + 1, by omega, by go_num, Lib.hid ⟨by rw [offs_take HU.out, ← HM.out]; exact hh.out.1, hh.out.2.1⟩⟩
          case measure => simp [intOf]; omega
    · obtain rfl : j = n := by omega
      have HF : Hid (offs (l.take j) = offs l) := Lib.hid (by rw [List.take_of_length_le (by rw [HLN.out]; omega)])
      gi_wp2
      go_end0
      exact ⟨⟨_, rfl⟩, .inl ⟨_, HF.out, hh.out.1⟩⟩

theorem offs_stops (d n₁ Bs : Nat) (A : Option Addr) (n c : Nat) (l : List (Int × Int)) (w : World) (hd : 1 ≤ d) (hv : Va (-1) l) (hn : n ≤ 1000) (hn₁ : n₁ ≤ w.heap.size)
    (hc : w.cell? ⟨Bs, 0, none⟩ = some (.slice A n c)) (ho : OwnE 31 w n₁ (.slice A n c) l) :
    SeqStopsK Fence.wide d Try.prog 41 #[.pointer (some ⟨Bs, 0, none⟩)] (fun x : Int => #[Value.int .i64 x]) (Kp n₁) (fun ys => ys = offs l) (fun pre => pre <+: offs l) (offs l).length w :=
  fun lp J Jx W hW hJ _ hY h0 =>
    run_any d lp Bs n₁ A n c l J Jx W hv hn hd (Nat.le_trans hn₁ hW.size) hJ hY ((hW.cell (p := ⟨Bs, 0, none⟩) (lt_of_some hc)).trans hc) (ho.kp (Kp.below hW)) h0
theorem none_stops (d n₁ : Nat) (w : World) :
    SeqStopsK Fence.wide d Try.prog 39 #[] (fun x : Int => #[Value.int .i64 x]) (Kp n₁) (fun ys => ys = []) (fun _ => False) 0 w := fun lp J Jx W hW hJ _ hY h0 => by
  clear hY hJ
  have H0 := Lib.hid h0
  clear h0
  refine callsIn_of_wp Try.func39 rfl trivial ?_ rfl
  simp only [Try.ntmps39, List.size_toArray, List.length_cons, List.length_nil, Nat.reduceAdd, Nat.reduceSub, Array.replicate_succ, Array.replicate_zero, List.push_toArray, List.append_toArray, List.nil_append, List.cons_append]
  gi_wp2
  go_end0
  exact ⟨⟨_, rfl⟩, .inl ⟨[], rfl, H0.out⟩⟩

/-- What Offsets says of a valid list. -/
def OffE (w : World) (l : List (Int × Int)) (e : Ending) (w' : World) : Prop :=
  ∃ B A n c, e = .returned (.func (.func 41) #[] #[.pointer (some ⟨B, 0, none⟩)]) ∧ w'.cell? ⟨B, 0, none⟩ = some (.slice A n c) ∧ OwnE 31 w' w.heap.size (.slice A n c) l ∧ Below w.heap.size w w'
theorem offsets_yes (A : Option Addr) (n c : Nat) (l : List (Int × Int)) (w : World) (h : Exs w w.heap.size A n c l) (hn : n ≤ 1000) (hv : Va (-1) l) :
    Calls Try.prog 28 #[.slice A n c] w (OffE w l) := by
  have H := Lib.hid (valid_any A n c l w h (by omega))
  rw [vaB_yes hv] at H
  have HX := Lib.hid h
  have hmf : ∀ (fn : Fn) (first cap : Array Value) (w : World), (Instr.makeFunc fn first cap).run Try.prog w = .ok (.func fn first cap) w := fun _ _ _ _ => rfl
  clear h hv
  go_enter Try.func28, Try.ntmps28
  go_wp2_with fail
  refine H.out.mono ?_
  rintro e w1 ⟨rfl, hb1⟩
  have HB1 := Lib.hid hb1
  have HX1 := Lib.hid (HX.out.go hb1)
  clear H hb1
  go_wp2_with fail
  refine (clone_any A n c l w1 HX1.out hn).mono ?_
  rintro e w2 ⟨v, rfl, ho, hb⟩
  obtain ⟨A2, n2, c2, rfl, hx⟩ := ho.shape
  have HO2 := Lib.hid (ho.down (B := w.heap.size) HB1.out.size)
  have HB2 := Lib.hid (Below.then HB1.out hb (Nat.le_refl _))
  clear ho hb hx
  go_wp2
  go_ret
  exact ⟨w2.heap.size, A2, n2, c2, rfl, cell_alloc rfl, HO2.out.alloc _, HB2.out.alloc HB2.out.size _⟩
theorem offsets_no (A : Option Addr) (n c : Nat) (l : List (Int × Int)) (w : World) (h : Exs w w.heap.size A n c l) (hn : n ≤ 1000) (hv : ¬ Va (-1) l) :
    Calls Try.prog 28 #[.slice A n c] w fun e w' => e = .returned (.func (.func 39) #[] #[]) ∧ Below w.heap.size w w' := by
  have H := Lib.hid (valid_any A n c l w h (by omega))
  rw [vaB_no hv] at H
  clear h hv
  go_enter Try.func28, Try.ntmps28
  go_wp2_with fail
  refine H.out.mono ?_
  rintro e w1 ⟨rfl, hb1⟩
  have HB1 := Lib.hid hb1
  clear H hb1
  go_wp2
  go_ret
  exact ⟨rfl, HB1.out⟩
end Go.Proofs.Ytolfcoaipcaoaaa
