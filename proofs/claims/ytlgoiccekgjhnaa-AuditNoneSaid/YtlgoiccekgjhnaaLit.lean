/-
  Contracts of the landed log's iterators: All, Query, and what they run over. Conditions: at most a million records.
-/
import Derived.Test.YtlgoiccekgjhnaaItk
import Derived.Test.YtlgoiccekgjhnaaLgm
namespace Go.Proofs.Ytlgoiccekgjhnaa
open Go.ChangeShapes Go.WideShapes Go.ChangeAt Go.RowKit Go.Shelf
attribute [local go_sem] Oper.semAt_some
set_option linter.unusedVariables false
set_option linter.unusedSimpArgs false
set_option maxHeartbeats 4000000
set_option maxRecDepth 100000

/-- The events that are selected, with their places. -/
def sls (s : Ev5 → Bool) : Nat → List Ev5 → List (Nat × Ev5)
  | _, [] => []
  | i, x :: l => if s x then (i, x) :: sls s (i + 1) l else sls s (i + 1) l
theorem sls_app (s : Ev5 → Bool) : ∀ (l m : List Ev5) (i : Nat), sls s i (l ++ m) = sls s i l ++ sls s (i + l.length) m
  | [], m, i => by simp [sls]
  | x :: l, m, i => by
    simp only [List.cons_append, sls, List.length_cons]
    rw [sls_app s l m (i + 1), show i + 1 + l.length = i + (l.length + 1) by omega]
    split <;> simp
theorem sls_next {s : Ev5 → Bool} {L : List Ev5} {j : Nat} {x : Ev5} (h : L[j]? = some x) : sls s 0 (L.take (j + 1)) = sls s 0 (L.take j) ++ if s x then [(j, x)] else [] := by
  have hj := (List.getElem?_eq_some_iff.1 h).1
  rw [List.take_add_one, h, Option.toList_some, sls_app, Nat.zero_add, List.length_take, Nat.min_eq_left (by omega)]
  simp only [sls]
theorem sls_at {s : Ev5 → Bool} {L : List Ev5} {j : Nat} {x : Ev5} (h : L[j]? = some x) (hs : s x = true) : (sls s 0 L)[(sls s 0 (L.take j)).length]? = some (j, x) := by
  have e : L = L.take (j + 1) ++ L.drop (j + 1) := (List.take_append_drop _ _).symm
  have e2 := sls_app s (L.take (j + 1)) (L.drop (j + 1)) 0
  rw [← e, sls_next h, if_pos hs] at e2
  rw [e2, List.append_assoc, List.getElem?_append_right (Nat.le_refl _)]
  simp
/-- All of them. -/
theorem sls_all : ∀ {L : List Ev5} {i k : Nat}, (sls (fun _ => true) i L)[k]? = L[k]?.map fun x => (i + k, x)
  | [], i, k => by simp [sls]
  | x :: L, i, 0 => by simp [sls]
  | x :: L, i, k + 1 => by
    simp only [sls, if_true, List.getElem?_cons_succ]
    rw [sls_all]
    congr 1
    funext y
    rw [show i + 1 + k = i + (k + 1) by omega]
theorem sls_len (L : List Ev5) (i : Nat) : (sls (fun _ => true) i L).length = L.length := by
  induction L generalizing i with
  | nil => rfl
  | cons x L ih => simp only [sls, if_true, List.length_cons, ih]
theorem sls_snd (L : List Ev5) (i : Nat) : (sls (fun _ => true) i L).map Prod.snd = L := by
  induction L generalizing i with
  | nil => rfl
  | cons x L ih => simp only [sls, if_true, List.map_cons, ih]
/-- What an iterator hands over. -/
def encP (x : Nat × Ev5) : Array Value := #[.int .i64 (x.1 : Int), .agg #[.int .i64 x.2.p, .int .i64 x.2.o, .int .u64 x.2.h, .int .u64 x.2.a, .int .i64 x.2.e]]
/-- Cells that are kept, in a slice of events. -/
theorem Kws.same {α : Type} {E : Enc α} {w w' : World} {B n c : Nat} {A : Option Addr} {l : List α} (h : Kws E w B A n c l) (hs : ∀ g cs t fr, g < B → w.heap[g]? = some (.cells cs t fr) → w'.heap[g]? = some (.cells cs t fr)) : Kws E w' B A n c l :=
  ⟨h.len, h.cap, h.small, h.nil, fun hn => by
    obtain ⟨b, o, e, hb, hc⟩ := h.cells hn
    refine ⟨b, o, e, hb, fun q u hu => ?_⟩
    have h1 := hc q u hu
    have h2 : ∃ cs t fr, w.heap[b]? = some (.cells cs t fr) := by
      unfold World.cell? at h1
      split at h1
      · exact ⟨_, _, _, by assumption⟩
      · cases h1
    obtain ⟨cs, t, fr, hh⟩ := h2
    rw [← h1]
    exact World.cell?_of_block (a := ⟨b, o + q, none⟩) ((hs b cs t fr hb hh).trans hh.symm)⟩
/-- The rows that orEmpty leads to. -/
theorem orRow_any {w0 W : World} {P : Option Addr} {cap last : Int} {L : List Ev5} {f g : Int → Nat} (H : Rlp w0 P cap L last f g) (hw : Below w0.heap.size w0 W) :
    Calls Try.prog 58 #[.pointer P] W fun e w' => ∃ p A n cp c0 c2 c3 c4, e = .returned (.pointer (some ⟨p, 0, none⟩)) ∧ w'.heap[p]? = some (.cells #[c0, .slice A n cp, c2, c3, c4] 50 (0, 0)) ∧ Kws ev5 w' w0.heap.size A n cp L ∧ Below W.heap.size W w' := by
  rcases H with ⟨p, rfl, A, n, cp, mr, mm, N1, N2, hblk, hk, _, _⟩ | ⟨rfl, rfl, rfl, hf, hg⟩
  · have HB := Lib.hid ((hw.block p (Array.getElem?_eq_some_iff.1 hblk).1).trans hblk)
    have HK := Lib.hid (hk.below hw)
    clear hblk hk
    go_enter Try.func58, Try.ntmps58
    go_wp2
    go_ret
    exact ⟨p, A, n, cp, _, _, _, _, rfl, HB.out, HK.out, Below.refl _ _⟩
  · have HB := Lib.hid ((Below.refl W.heap.size W).alloc (Nat.le_refl _) (.cells #[.int .i64 0, .slice none 0 0, .int .u64 0, .map none, .map none] 50))
    have HN := Lib.hid (heap_alloc_new W (.cells #[.int .i64 0, .slice none 0 0, .int .u64 0, .map none, .map none] 50))
    clear hf hg
    go_enter Try.func58, Try.ntmps58
    go_wp2
    go_ret
    exact ⟨W.heap.size, none, 0, 0, _, _, _, _, rfl, HN.out, Kws.none_, HB.out⟩
theorem fitA_any (p o h a e : Int) (w : World) : Calls Try.prog 79 #[.agg #[.int .i64 p, .int .i64 o, .int .u64 h, .int .u64 a, .int .i64 e]] w (Says w (.bool true)) := by
  have HB := Lib.hid ((Below.refl w.heap.size w).alloc (Nat.le_refl _) (.cells #[.int .i64 p, .int .i64 o, .int .u64 h, .int .u64 a, .int .i64 e] 27))
  go_enter Try.func79, Try.ntmps79
  go_wp2
  go_ret
  exact Says.of HB.out
theorem fitQ_any (p o h a e z : Int) (b : Nat) (w : World) (hb : Cel w b 3 (.int .i64 z)) : Calls Try.prog 69 #[.agg #[.int .i64 p, .int .i64 o, .int .u64 h, .int .u64 a, .int .i64 e], .pointer (some ⟨b, 0, none⟩)] w (Says w (.bool (decide (p = z)))) := by
  have HB := Lib.hid ((Below.refl w.heap.size w).alloc (Nat.le_refl _) (.cells #[.int .i64 p, .int .i64 o, .int .u64 h, .int .u64 a, .int .i64 e] 27))
  obtain ⟨c0, c1, c2, c3, c4⟩ := (EvB.new (w := w) (p := p) (o := o) (h := h) (a := a) (e := e)).cells
  have c5 := (hb.go ((Below.refl w.heap.size w).alloc (Nat.le_refl _) (.cells #[.int .i64 p, .int .i64 o, .int .u64 h, .int .u64 a, .int .i64 e] 27))).cell
  have HQ : Hid (decide (p = z) = (p == z)) := Lib.hid (by by_cases e : p = z <;> simp [e])
  generalize decide (p = z) = q at *
  clear hb
  go_enter Try.func69, Try.ntmps69
  go_wp2
  go_ret
  rw [HQ.out]
  exact Says.of HB.out
theorem where_any (q : Option Addr) (fn : Fn) (fi ca : Array Value) (w : World) : Calls Try.prog 68 #[.pointer q, .func fn fi ca] w fun e w' => e = .returned (.func (.func 80) #[] #[.pointer (some ⟨w.heap.size, 0, none⟩), .pointer (some ⟨w.heap.size + 1, 0, none⟩)]) ∧ w' = (w.alloc (.cells #[.pointer q] 31)).alloc (.cells #[.func fn fi ca] 86) := by
  have hmf : ∀ (fn : Fn) (first cap : Array Value) (w : World), (Instr.makeFunc fn first cap).run Try.prog w = .ok (.func fn first cap) w := fun _ _ _ _ => rfl
  go_enter Try.func68, Try.ntmps68
  go_wp2
  go_ret
  exact ⟨rfl, rfl⟩
theorem allW_any (q : Option Addr) (w : World) : Calls Try.prog 67 #[.pointer q] w fun e w' => e = .returned (.func (.func 80) #[] #[.pointer (some ⟨w.heap.size, 0, none⟩), .pointer (some ⟨w.heap.size + 1, 0, none⟩)]) ∧ w' = (w.alloc (.cells #[.pointer q] 31)).alloc (.cells #[.func (.func 79) #[] #[]] 86) := by
  have HW := Lib.hid (where_any q (.func 79) #[] #[] w)
  go_enter Try.func67, Try.ntmps67
  go_wp2_with fail
  refine HW.out.mono ?_
  rintro e w1 ⟨rfl, hw1⟩
  have HE := Lib.hid hw1
  clear hw1 HW
  go_wp2
  go_ret
  exact ⟨rfl, HE.out⟩
theorem queryW_any (q : Option Addr) (z : Int) (w : World) : Calls Try.prog 49 #[.pointer q, .int .i64 z] w fun e w' => e = .returned (.func (.func 80) #[] #[.pointer (some ⟨w.heap.size + 1, 0, none⟩), .pointer (some ⟨w.heap.size + 2, 0, none⟩)]) ∧
    w' = ((w.alloc (.cells #[.int .i64 z] 3)).alloc (.cells #[.pointer q] 31)).alloc (.cells #[.func (.func 69) #[] #[.pointer (some ⟨w.heap.size, 0, none⟩)]] 86) := by
  have hmf : ∀ (fn : Fn) (first cap : Array Value) (w : World), (Instr.makeFunc fn first cap).run Try.prog w = .ok (.func fn first cap) w := fun _ _ _ _ => rfl
  have HW := Lib.hid (where_any q (.func 69) #[] #[.pointer (some ⟨w.heap.size, 0, none⟩)] (w.alloc (.cells #[.int .i64 z] 3)))
  rw [show (w.alloc (.cells #[.int .i64 z] 3)).heap.size = w.heap.size + 1 by simp] at HW
  go_enter Try.func49, Try.ntmps49
  go_wp2_with fail
  refine HW.out.mono ?_
  rintro e w1 ⟨rfl, hw1⟩
  have HE := Lib.hid hw1
  clear hw1 HW
  go_wp2
  go_ret
  exact ⟨rfl, HE.out⟩
theorem run_all17 (d lp B1 B2 : Nat) {w0 W : World} {P : Option Addr} {cap last : Int} {L : List Ev5} {f g : Int → Nat} (H : Rlp w0 P cap L last f g) (hW0 : Below w0.heap.size w0 W) (hn : L.length ≤ 1000000) (hd : 1 ≤ d) (J : List (Nat × Ev5) → World → Prop) (K : World → World → Prop) (St : World → Prop)
    (hK : ∀ A B, K A B → St A → (∀ g cs t fr, (g < w0.heap.size ∨ g = B2) → A.heap[g]? = some (.cells cs t fr) → B.heap[g]? = some (.cells cs t fr)) ∧ St B) (hS0 : St W) (hSb : ∀ A B, Below A.heap.size A B → St A → St B)
    (hJ : AbidesFrom W.heap.size J)
    (hY : ∀ pre x W1, J pre W1 → (sls (fun _ => true) 0 L)[pre.length]? = some x → YieldAt Fence.wide (d - 1) Try.prog lp (encP x) W1 fun e W' => e = .returned (.bool true) ∧ J (pre ++ [x]) W' ∧ K W1 W')
    (hc1 : Cel W B1 31 (.pointer P)) (hc2 : Cel W B2 86 (.func (.func 79) #[] #[])) (h0 : J [] W) :
    CallsIn Fence.wide d Try.prog 80 #[.func (.yield lp) #[] #[], .pointer (some ⟨B1, 0, none⟩), .pointer (some ⟨B2, 0, none⟩)] W fun e W' => (∃ v, e = .returned v) ∧ ∃ ys, ys = sls (fun _ => true) 0 L ∧ J ys W' := by
  have HO := Lib.hid ((callsIn_wide (n := d - 1)).2 (orRow_any H hW0))
  have HJ := Lib.hid hJ
  have HY := Lib.hid hY
  have H0 := Lib.hid h0
  have HK := Lib.hid hK
  have HS0 := Lib.hid hS0
  have HSB := Lib.hid hSb
  have HB1 := Lib.hid hc1
  have HC2 := Lib.hid hc2
  have k1 := hc1.cell
  clear hJ hY h0 hK hS0 hSb hc1 hc2 H
  refine callsIn_of_wp Try.func80 rfl trivial ?_ rfl
  simp only [Try.ntmps80, List.size_toArray, List.length_cons, List.length_nil, Nat.reduceAdd, Nat.reduceSub, Array.replicate_succ, Array.replicate_zero, List.push_toArray, List.append_toArray, List.nil_append, List.cons_append]
  gi_wp2
  refine ⟨trivial, HO.out.mono ?_⟩
  rintro e w2 ⟨p, A2, n2, c2, l0, l2, l3, l4, rfl, hblk, hk2, hb2⟩
  obtain ⟨s0, s1, s2, s3, s4⟩ := log_cells hblk
  have HLN := Lib.hid hk2.len
  have hn2 : n2 ≤ 1000000 := by have := HLN.out; omega
  have hcap := hk2.cap
  have hsm := hk2.small
  unfold maxLen at hsm
  have HST : Hid (J (sls (fun _ => true) 0 (L.take 0)) w2 ∧ Kws ev5 w2 w0.heap.size A2 n2 c2 L ∧ St w2 ∧ Cel w2 B2 86 (.func (.func 79) #[] #[])) := Lib.hid
    ⟨HJ.out _ _ _ none H0.out (below_grown hb2 none) (fun r e => by cases e), hk2, HSB.out _ _ hb2 HS0.out, HC2.out.go hb2⟩
  clear HO hblk hk2 hb2 HS0 H0 HC2 HB1 k1 hn
  gi_wp2
  clear s0 s1 s2 s3 s4
  gi_loopw [12] (fun i wr => ∃ j : Nat, j ≤ n2 ∧ i = .int .i64 j ∧ Hid (J (sls (fun _ => true) 0 (L.take j)) wr ∧ Kws ev5 wr w0.heap.size A2 n2 c2 L ∧ St wr ∧ Cel wr B2 86 (.func (.func 79) #[] #[]))) (fun i _ => n2 - (intOf i).toNat)
  case atStart => exact ⟨0, by omega, rfl, HST⟩
  case round =>
    obtain ⟨j, hj, rfl, hh⟩ := hrel
    clear HST
    by_cases hjn : j < n2
    · have hj1 : (j : Int) < (n2 : Int) := by omega
      have HJ0 := Lib.hid hh.out.1
      have HS1 := Lib.hid hh.out.2.2.1
      obtain ⟨b, o, x, hx, rfl, hb, g0, g1, g2, g3, g4⟩ := hh.out.2.1.ev_ hjn
      have HX := Lib.hid hx
      have hbe : Below wr.heap.size wr (wr.alloc (.cells #[.int .i64 x.p, .int .i64 x.o, .int .u64 x.h, .int .u64 x.a, .int .i64 x.e] 27)) := (Below.refl _ _).alloc (Nat.le_refl _) _
      have HJ1 := Lib.hid (HJ.out _ _ _ none HJ0.out (World.grownBy_alloc wr (.cells #[.int .i64 x.p, .int .i64 x.o, .int .u64 x.h, .int .u64 x.a, .int .i64 x.e] 27) none) (fun r e => by cases e))
      have HK1 := Lib.hid (hh.out.2.1.same (fun g cs t fr _ hg => (hbe.block g (Array.getElem?_eq_some_iff.1 hg).1).trans hg))
      have HS1' := Lib.hid (HSB.out _ _ hbe HS1.out)
      have HC2 := Lib.hid (hh.out.2.2.2.go hbe)
      have hx1 := EvB.new (w := wr) (p := x.p) (o := x.o) (h := x.h) (a := x.a) (e := x.e)
      have HX1 := Lib.hid hx1
      obtain ⟨q0, q1, q2, q3, q4⟩ := hx1.cells
      have k2 := HC2.out.cell
      have HFI := Lib.hid ((callsIn_wide (n := d - 1)).2 (fitA_any x.p x.o x.h x.a x.e (wr.alloc (.cells #[.int .i64 x.p, .int .i64 x.o, .int .u64 x.h, .int .u64 x.a, .int .i64 x.e] 27))))
      clear hx hb hh hbe hx1 HJ0 HS1
      gi_wp2
      generalize wr.alloc (.cells #[.int .i64 x.p, .int .i64 x.o, .int .u64 x.h, .int .u64 x.a, .int .i64 x.e] 27) = w3 at *
      generalize wr.heap.size = tb at *
      refine ⟨trivial, HFI.out.mono ?_⟩
      rintro e w4 ⟨rfl, hb4⟩
      have HJ4 := Lib.hid (HJ.out _ _ _ none HJ1.out (below_grown hb4 none) (fun r e => by cases e))
      have HK4 := Lib.hid (HK1.out.same (fun g cs t fr _ hg => (hb4.block g (Array.getElem?_eq_some_iff.1 hg).1).trans hg))
      have HS4 := Lib.hid (HSB.out _ _ hb4 HS1'.out)
      have HC4 := Lib.hid (HC2.out.go hb4)
      have hx4 := HX1.out.go hb4
      obtain ⟨r0, r1, r2, r3, r4⟩ := hx4.cells
      have k4 := HC4.out.cell
      clear HFI hb4 HJ1 HK1 HS1' HC2 HX1 hx4 q0 q1 q2 q3 q4 k2 g0 g1 g2 g3 g4
      obtain ⟨fn, tmps, assign, body, hy, hR⟩ := HY.out _ (j, x) _ HJ4.out (sls_at HX.out rfl)
      unfold encP at hy
      simp only at hy
      gi_wp2
      refine hR.mono ?_
      rintro e W3 ⟨rfl, hJ3, hk3⟩
      have HF : Hid (J (sls (fun _ => true) 0 (L.take (j + 1))) W3 ∧ Kws ev5 W3 w0.heap.size (some ⟨b, o, none⟩) n2 c2 L ∧ St W3 ∧ Cel W3 B2 86 (.func (.func 79) #[] #[])) := Lib.hid (by
        obtain ⟨k5, k6⟩ := HK.out _ _ hk3 HS4.out
        rw [sls_next HX.out, if_pos rfl]
        exact ⟨hJ3, HK4.out.same (fun g cs t fr hg hc => k5 g cs t fr (.inl hg) hc), k6, k5 _ _ _ _ (.inr rfl) HC4.out⟩)
      clear hJ3 hk3 hR hy HJ4 HK4 HS4 HC4 r0 r1 r2 r3 r4
      gi_wp2
      go_roundw
      case rel => exact ⟨j + 1, by omega, by go_num, HF⟩
      case measure => simp [intOf]; omega
    · obtain rfl : j = n2 := by omega
      have HF : Hid (L.take j = L) := Lib.hid (List.take_of_length_le (by have := HLN.out; omega))
      gi_wp2
      go_end0
      exact ⟨⟨_, rfl⟩, _, by rw [HF.out], hh.out.1⟩
theorem run_qry17 (d lp B1 B2 B3 : Nat) (z : Int) {w0 W : World} {P : Option Addr} {cap last : Int} {L : List Ev5} {f g : Int → Nat} (H : Rlp w0 P cap L last f g) (hW0 : Below w0.heap.size w0 W) (hn : L.length ≤ 1000000) (hd : 1 ≤ d) (J : List (Nat × Ev5) → World → Prop) (K : World → World → Prop) (St : World → Prop)
    (hK : ∀ A B, K A B → St A → (∀ g cs t fr, (g < w0.heap.size ∨ g = B2 ∨ g = B3) → A.heap[g]? = some (.cells cs t fr) → B.heap[g]? = some (.cells cs t fr)) ∧ St B) (hS0 : St W) (hSb : ∀ A B, Below A.heap.size A B → St A → St B)
    (hJ : AbidesFrom W.heap.size J)
    (hY : ∀ pre x W1, J pre W1 → (sls (fun x => decide (x.p = z)) 0 L)[pre.length]? = some x → YieldAt Fence.wide (d - 1) Try.prog lp (encP x) W1 fun e W' => e = .returned (.bool true) ∧ J (pre ++ [x]) W' ∧ K W1 W')
    (hc1 : Cel W B1 31 (.pointer P)) (hc2 : Cel W B2 86 (.func (.func 69) #[] #[.pointer (some ⟨B3, 0, none⟩)])) (hc3 : Cel W B3 3 (.int .i64 z)) (h0 : J [] W) :
    CallsIn Fence.wide d Try.prog 80 #[.func (.yield lp) #[] #[], .pointer (some ⟨B1, 0, none⟩), .pointer (some ⟨B2, 0, none⟩)] W fun e W' => (∃ v, e = .returned v) ∧ ∃ ys, ys = sls (fun x => decide (x.p = z)) 0 L ∧ J ys W' := by
  have HO := Lib.hid ((callsIn_wide (n := d - 1)).2 (orRow_any H hW0))
  have HJ := Lib.hid hJ
  have HY := Lib.hid hY
  have H0 := Lib.hid h0
  have HK := Lib.hid hK
  have HS0 := Lib.hid hS0
  have HSB := Lib.hid hSb
  have HB1 := Lib.hid hc1
  have HC2 := Lib.hid hc2
  have HC3 := Lib.hid hc3
  have k1 := hc1.cell
  clear hJ hY h0 hK hS0 hSb hc1 hc2 hc3 H
  refine callsIn_of_wp Try.func80 rfl trivial ?_ rfl
  simp only [Try.ntmps80, List.size_toArray, List.length_cons, List.length_nil, Nat.reduceAdd, Nat.reduceSub, Array.replicate_succ, Array.replicate_zero, List.push_toArray, List.append_toArray, List.nil_append, List.cons_append]
  gi_wp2
  refine ⟨trivial, HO.out.mono ?_⟩
  rintro e w2 ⟨p, A2, n2, c2, l0, l2, l3, l4, rfl, hblk, hk2, hb2⟩
  obtain ⟨s0, s1, s2, s3, s4⟩ := log_cells hblk
  have HLN := Lib.hid hk2.len
  have hn2 : n2 ≤ 1000000 := by have := HLN.out; omega
  have hcap := hk2.cap
  have hsm := hk2.small
  unfold maxLen at hsm
  have HST : Hid (J (sls (fun x => decide (x.p = z)) 0 (L.take 0)) w2 ∧ Kws ev5 w2 w0.heap.size A2 n2 c2 L ∧ St w2 ∧ Cel w2 B2 86 (.func (.func 69) #[] #[.pointer (some ⟨B3, 0, none⟩)]) ∧ Cel w2 B3 3 (.int .i64 z)) := Lib.hid
    ⟨HJ.out _ _ _ none H0.out (below_grown hb2 none) (fun r e => by cases e), hk2, HSB.out _ _ hb2 HS0.out, HC2.out.go hb2, HC3.out.go hb2⟩
  clear HO hblk hk2 hb2 HS0 H0 HC2 HC3 HB1 k1 hn
  gi_wp2
  clear s0 s1 s2 s3 s4
  gi_loopw [12] (fun i wr => ∃ j : Nat, j ≤ n2 ∧ i = .int .i64 j ∧ Hid (J (sls (fun x => decide (x.p = z)) 0 (L.take j)) wr ∧ Kws ev5 wr w0.heap.size A2 n2 c2 L ∧ St wr ∧ Cel wr B2 86 (.func (.func 69) #[] #[.pointer (some ⟨B3, 0, none⟩)]) ∧ Cel wr B3 3 (.int .i64 z))) (fun i _ => n2 - (intOf i).toNat)
  case atStart => exact ⟨0, by omega, rfl, HST⟩
  case round =>
    obtain ⟨j, hj, rfl, hh⟩ := hrel
    clear HST
    by_cases hjn : j < n2
    · have hj1 : (j : Int) < (n2 : Int) := by omega
      have HJ0 := Lib.hid hh.out.1
      have HS1 := Lib.hid hh.out.2.2.1
      obtain ⟨b, o, x, hx, rfl, hb, g0, g1, g2, g3, g4⟩ := hh.out.2.1.ev_ hjn
      have HX := Lib.hid hx
      have hbe : Below wr.heap.size wr (wr.alloc (.cells #[.int .i64 x.p, .int .i64 x.o, .int .u64 x.h, .int .u64 x.a, .int .i64 x.e] 27)) := (Below.refl _ _).alloc (Nat.le_refl _) _
      have HJ1 := Lib.hid (HJ.out _ _ _ none HJ0.out (World.grownBy_alloc wr (.cells #[.int .i64 x.p, .int .i64 x.o, .int .u64 x.h, .int .u64 x.a, .int .i64 x.e] 27) none) (fun r e => by cases e))
      have HK1 := Lib.hid (hh.out.2.1.same (fun g cs t fr _ hg => (hbe.block g (Array.getElem?_eq_some_iff.1 hg).1).trans hg))
      have HS1' := Lib.hid (HSB.out _ _ hbe HS1.out)
      have HC2 := Lib.hid (hh.out.2.2.2.1.go hbe)
      have HC3 := Lib.hid (hh.out.2.2.2.2.go hbe)
      have hx1 := EvB.new (w := wr) (p := x.p) (o := x.o) (h := x.h) (a := x.a) (e := x.e)
      have HX1 := Lib.hid hx1
      obtain ⟨q0, q1, q2, q3, q4⟩ := hx1.cells
      have k2 := HC2.out.cell
      have HFI := Lib.hid ((callsIn_wide (n := d - 1)).2 (fitQ_any x.p x.o x.h x.a x.e z B3 (wr.alloc (.cells #[.int .i64 x.p, .int .i64 x.o, .int .u64 x.h, .int .u64 x.a, .int .i64 x.e] 27)) HC3.out))
      clear hx hb hh hbe hx1 HJ0 HS1
      gi_wp2
      generalize wr.alloc (.cells #[.int .i64 x.p, .int .i64 x.o, .int .u64 x.h, .int .u64 x.a, .int .i64 x.e] 27) = w3 at *
      generalize wr.heap.size = tb at *
      refine ⟨trivial, HFI.out.mono ?_⟩
      rintro e w4 ⟨rfl, hb4⟩
      have HJ4 := Lib.hid (HJ.out _ _ _ none HJ1.out (below_grown hb4 none) (fun r e => by cases e))
      have HK4 := Lib.hid (HK1.out.same (fun g cs t fr _ hg => (hb4.block g (Array.getElem?_eq_some_iff.1 hg).1).trans hg))
      have HS4 := Lib.hid (HSB.out _ _ hb4 HS1'.out)
      have HC4 := Lib.hid (HC2.out.go hb4)
      have HD4 := Lib.hid (HC3.out.go hb4)
      have hx4 := HX1.out.go hb4
      obtain ⟨r0, r1, r2, r3, r4⟩ := hx4.cells
      have k4 := HC4.out.cell
      clear HFI hb4 HJ1 HK1 HS1' HC2 HX1 hx4 q0 q1 q2 q3 q4 k2 g0 g1 g2 g3 g4 HC3
      by_cases hsx : x.p = z
      · obtain ⟨fn, tmps, assign, body, hy, hR⟩ := HY.out _ (j, x) _ HJ4.out (sls_at HX.out (decide_eq_true hsx))
        unfold encP at hy
        simp only at hy
        have hq : decide (x.p = z) = true := decide_eq_true hsx
        simp only [hq]
        have HSX := Lib.hid hsx
        clear hsx hq
        gi_wp2
        refine hR.mono ?_
        rintro e W3 ⟨rfl, hJ3, hk3⟩
        have HF : Hid (J (sls (fun x => decide (x.p = z)) 0 (L.take (j + 1))) W3 ∧ Kws ev5 W3 w0.heap.size (some ⟨b, o, none⟩) n2 c2 L ∧ St W3 ∧ Cel W3 B2 86 (.func (.func 69) #[] #[.pointer (some ⟨B3, 0, none⟩)]) ∧ Cel W3 B3 3 (.int .i64 z)) := Lib.hid (by
          obtain ⟨k5, k6⟩ := HK.out _ _ hk3 HS4.out
          rw [sls_next HX.out, if_pos (decide_eq_true HSX.out)]
          exact ⟨hJ3, HK4.out.same (fun g cs t fr hg hc => k5 g cs t fr (.inl hg) hc), k6, k5 _ _ _ _ (.inr (.inl rfl)) HC4.out, k5 _ _ _ _ (.inr (.inr rfl)) HD4.out⟩)
        clear hJ3 hk3 hR hy HJ4 HK4 HS4 HC4 HD4 r0 r1 r2 r3 r4
        gi_wp2
        go_roundw
        case rel => exact ⟨j + 1, by omega, by go_num, HF⟩
        case measure => simp [intOf]; omega
      · have HF : Hid (J (sls (fun x => decide (x.p = z)) 0 (L.take (j + 1))) w4 ∧ Kws ev5 w4 w0.heap.size (some ⟨b, o, none⟩) n2 c2 L ∧ St w4 ∧ Cel w4 B2 86 (.func (.func 69) #[] #[.pointer (some ⟨B3, 0, none⟩)]) ∧ Cel w4 B3 3 (.int .i64 z)) := Lib.hid (by
          rw [sls_next HX.out, if_neg (by simpa using hsx), List.append_nil]
          exact ⟨HJ4.out, HK4.out, HS4.out, HC4.out, HD4.out⟩)
        have hq : decide (x.p = z) = false := decide_eq_false hsx
        clear HJ4 HK4 HS4 HC4 HD4 hsx
        simp only [hq]
        clear hq
        gi_wp2_with fail
        refine ⟨fun _ h => (by cases h), ?_⟩
        gi_wp2
        go_roundw
        case rel => exact ⟨j + 1, by omega, by go_num, HF⟩
        case measure => simp [intOf]; omega
    · obtain rfl : j = n2 := by omega
      have HF : Hid (L.take j = L) := Lib.hid (List.take_of_length_le (by have := HLN.out; omega))
      gi_wp2
      go_end0
      exact ⟨⟨_, rfl⟩, _, by rw [HF.out], hh.out.1⟩
end Go.Proofs.Ytlgoiccekgjhnaa
