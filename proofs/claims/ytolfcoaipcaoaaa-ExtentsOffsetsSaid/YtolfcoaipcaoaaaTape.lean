/-
  Contracts of the functions that build a valid set of extents from numbers: the tape, its numbers, the set. No conditions: whatever the numbers, the set is the plain function gen, and it is valid.
-/
import Derived.Test.YtolfcoaipcaoaaaCat
import Derived.Deep.RegionHeld3
namespace Go.Proofs.Ytolfcoaipcaoaaa
open Go.ChangeShapes Go.WideShapes Go.ChangeAt Go.RowKit
set_option maxHeartbeats 800000
set_option maxRecDepth 100000

/-- The numbers of a tape; behind its end there are zeros. -/
def num (L : List Int) (i : Nat) : Int := L.getD i 0
/-- At most f extents from place i of the tape on, the first one at a. -/
def gen (L : List Int) : Nat → Nat → Int → List (Int × Int)
  | 0, _, _ => []
  | f + 1, i, a => if i < L.length then (a, 1 + num L i % 9) :: gen L f (i + 2) (a + (1 + num L i % 9) + 1 + num L (i + 1) % 6) else []
/-- The set of a list of numbers. -/
def mkSet (L : List Int) : List (Int × Int) := gen (L.take 40) 12 1 (num (L.take 40) 0 % 5)
theorem gen_va (L : List Int) : ∀ (f i : Nat) (a p : Int), p < a → 0 ≤ a → a + 16 * f ≤ 1048576 → Va p (gen L f i a)
  | 0, _, _, _, _, _, _ => trivial
  | f + 1, i, a, p, h1, h2, h3 => by
    simp only [gen]
    split
    · refine ⟨h1, h2, by simp only; omega, by simp only; omega, gen_va L f _ _ _ (by simp only; omega) (by omega) (by omega)⟩
    · trivial
theorem gen_len (L : List Int) : ∀ (f i : Nat) (a : Int), (gen L f i a).length ≤ f
  | 0, _, _ => Nat.le_refl _
  | f + 1, i, a => by
    simp only [gen]
    split
    · have := gen_len L f (i + 2) (a + (1 + num L i % 9) + 1 + num L (i + 1) % 6)
      simp only [List.length_cons]
      omega
    · simp
theorem gen_lst (L : List Int) : ∀ (f i : Nat) (a p : Int), p ≤ a → lst p (gen L f i a) ≤ a + 16 * f
  | 0, _, _, _, h => by simp only [gen, lst]; omega
  | f + 1, i, a, p, h => by
    simp only [gen]
    split
    · simp only [lst]
      have := gen_lst L f (i + 2) (a + (1 + num L i % 9) + 1 + num L (i + 1) % 6) (a + (1 + num L i % 9)) (by omega)
      omega
    · simp only [lst]; omega
theorem set_va (L : List Int) : Va (-1) (mkSet L) := gen_va _ _ _ _ _ (by omega) (by omega) (by omega)
theorem set_len (L : List Int) : (mkSet L).length ≤ 12 := gen_len _ _ _ _
theorem set_lst (L : List Int) : lst 0 (mkSet L) ≤ 200 := by
  have := gen_lst (L.take 40) 12 1 (num (L.take 40) 0 % 5) 0 (by omega)
  unfold mkSet
  omega
theorem num_bd {L : List Int} (h : Fit .u16 L) (i : Nat) : 0 ≤ num L i ∧ num L i ≤ 65535 := u16_bd (h.at_ (by decide) i)

theorem info16 : (Try.prog.info? 68).map (fun i => (i.zero, i.size, i.bytes)) = some (some (.int .u16 0), 1, 2) := by kernel_rfl

/-- A block that holds a tape and may be written. -/
def Tap (w : World) (b : Nat) (A : Option Addr) (m c i : Nat) : Prop := w.heap[b]? = some (.cells #[.slice A m c, .int .i64 i] 64 (0, 0))
section
variable {w w' : World} {b B m c i : Nat} {A : Option Addr}
theorem Tap.lt (h : Tap w b A m c i) : b < w.heap.size := (Array.getElem?_eq_some_iff.1 h).1
theorem Tap.below (h : Tap w b A m c i) (hb : Below B w w') (hB : b < B) : Tap w' b A m c i := (hb.block b hB).trans h
theorem Tap.cell0 (h : Tap w b A m c i) : w.cell? ⟨b, 0, none⟩ = some (.slice A m c) := cell_of_row w b 0 _ _ _ h
theorem Tap.cell1 (h : Tap w b A m c i) : w.cell? ⟨b, 1, none⟩ = some (.int .i64 i) := cell_of_row w b 1 _ _ _ h
theorem Tap.fr1 (h : Tap w b A m c i) : w.frozen? ⟨b, 1, none⟩ = false := frozen_of_row w b 1 _ _ h
theorem Tap.set (h : Tap w b A m c i) (j : Nat) : Tap (w.setCell ⟨b, 1, none⟩ (.int .i64 j)) b A m c j := heap_setCell_same w b 1 _ _ _ h
end
theorem OwnE.apart {t : TypeId} {w : World} {base : Nat} {v : Value} {l : List (Int × Int)} (h : OwnE t w base v l) {a : Addr} (ha : a.block < base) (u : Value) : OwnE t (w.setCell a u) base v l :=
  ⟨ownsRow_setCell_below h.1 ha u, h.2⟩
theorem OwnE.drewN {t : TypeId} {w : World} {base : Nat} {v : Value} {l : List (Int × Int)} (h : OwnE t w base v l) (k : Nat) : OwnE t (w.drewN k) base v l := h.below (below_drewN (Below.refl _ _) k)

/-- What the next number of a tape says: the number; the place has moved on; nothing else has changed. -/
def NextE (w : World) (b i : Nat) (x : Int) (e : Ending) (w' : World) : Prop := e = .returned (.int .i64 x) ∧ ∃ q, w' = (w.setCell ⟨b, 1, none⟩ (.int .i64 ((i + 1 : Nat) : Int))).drewN q

theorem next_any (b m c i k : Nat) (A : Option Addr) (L : List Int) (w : World) (h : Tap w b A m c i) (hr : Row w b A m c (iv .u16 L)) (hf : Fit .u16 L) (hi : i ≤ 1000) (hk : 0 < k) (hk2 : k ≤ 1000) :
    Calls Try.prog 42 #[.pointer (some ⟨b, 0, none⟩), .int .i64 k] w (NextE w b i (num L i % k)) := by
  have c0 := h.cell0
  have c1 := h.cell1
  have hsm := hr.small
  have hcap := hr.cap
  unfold maxLen at hsm
  have HT := Lib.hid h
  obtain ⟨n0, n1⟩ := num_bd hf i
  have hk0 : (0 : Int) < (k : Int) := by omega
  have hk3 : (k : Int) ≤ 1000 := by omega
  by_cases hlt : i < m
  · obtain ⟨b', o', rfl, hb, hc⟩ := hr.int hlt
    have hc' : w.cell? ⟨b', o' + i, none⟩ = some (.int .u16 (num L i)) := hc
    generalize num L i = x at *
    have hi1 : (i : Int) < (m : Int) := by omega
    clear hc h hr hf
    go_enter Try.func42, Try.ntmps42
    go_wp2
    go_quiet (fail)
    have c1' : (w.drewN nq).cell? ⟨b, 1, none⟩ = some (.int .i64 i) := c1
    have c0' : (w.drewN nq).cell? ⟨b, 0, none⟩ = some (.slice (some ⟨b', o', none⟩) m c) := c0
    have hc2 : (w.drewN nq).cell? ⟨b', o' + i, none⟩ = some (.int .u16 x) := hc'
    go_wp2
    go_quiet (fail)
    rename_i nq2 nq1
    have fr : w.frozen? ⟨b, 1, none⟩ = false := HT.out.fr1
    go_wp2
    go_ret
    exact ⟨rfl, nq1 + nq, rfl⟩
  · have hz : num L i = 0 := by
      have := hr.len
      rw [iv_len] at this
      simp [num, List.getD, List.getElem?_eq_none (by omega : L.length ≤ i)]
    have HZ : Hid (num L i % (k : Int) = 0) := Lib.hid (by rw [hz]; simp)
    have hi1 : ¬ (i : Int) < (m : Int) := by omega
    clear h hr hf hz n0 n1
    go_enter Try.func42, Try.ntmps42
    go_wp2
    go_quiet (fail)
    have c1' : (w.drewN nq).cell? ⟨b, 1, none⟩ = some (.int .i64 i) := c1
    have fr : w.frozen? ⟨b, 1, none⟩ = false := HT.out.fr1
    go_wp2
    go_ret
    rw [HZ.out]
    exact ⟨rfl, nq, rfl⟩

theorem more_any (b m c i : Nat) (A : Option Addr) (w : World) (h : Tap w b A m c i) :
    Calls Try.prog 43 #[.pointer (some ⟨b, 0, none⟩)] w fun e w' => e = .returned (.bool (decide (i < m))) ∧ ∃ q, w' = w.drewN q := by
  have c0 := h.cell0
  have c1 := h.cell1
  clear h
  go_enter Try.func43, Try.ntmps43
  go_wp2
  go_quiet (fail)
  go_wp2
  go_ret
  exact ⟨by simp, nq, rfl⟩

/-- What a new tape says. -/
def OfE (w : World) (L : List Int) (e : Ending) (w' : World) : Prop := ∃ b A m c, e = .returned (.pointer (some ⟨b, 0, none⟩)) ∧ Tap w' b A m c 0 ∧ Row w' b A m c (iv .u16 L) ∧ w'.heap.size = b + 1 ∧ w.heap.size ≤ b ∧ Below w.heap.size w w'
theorem of_any (A : Option Addr) (n c : Nat) (L : List Int) (w : World) (h : Row w w.heap.size A n c (iv .u16 L)) :
    Calls Try.prog 30 #[.slice A n c, .int .i64 40] w (OfE w (L.take 40)) := by
  obtain ⟨i0, hi, hz0, hz1, hz2⟩ := info_parts info16
  have hsm := h.small
  have hcap := h.cap
  unfold maxLen at hsm
  have HR := Lib.hid h
  have HL := Lib.hid (show L.length = n by have := h.len; rw [iv_len] at this; exact this)
  clear h
  have HO : Hid (Own 68 (w.alloc (.cells #[] 68)) w.heap.size (.slice (some ⟨w.heap.size, 0, none⟩) 0 0) []) := Lib.hid (World.ownsRow_made w #[] 0 (Nat.le_refl _) (Nat.zero_le _) rfl)
  by_cases hlt : 40 < n
  · have hlt' : (40 : Int) < (n : Int) := by omega
    have HT : Hid (Row w w.heap.size A 40 c (iv .u16 (L.take 40))) := Lib.hid (by have := HR.out.take (k := 40) (by omega); rwa [iv_take] at this)
    go_enter Try.func30, Try.ntmps30
    go_wp2_with (at_builtin; go_must (refine wpList_app _ rfl (.tmp 12) (.tmp 13) 23 rfl Try.underlying23 hi hz0 rfl hz1 (by omega) HO.out rfl (HT.out.alloc _) rfl iv_one (by simp <;> omega) (by simp) ?_); intro v2 w2 ho2 hb2; obtain ⟨A2, n2, c2, rfl, hr2⟩ := ho2.shape)
    have HR2 := Lib.hid hr2
    have HB2 := Lib.hid (((Below.refl w.heap.size w).alloc (Nat.le_refl _) (.cells #[] 68)).trans hb2)
    clear ho2 hr2 hb2
    go_ret
    refine ⟨w2.heap.size, A2, n2, c2, rfl, heap_alloc_new w2 _, ?_, by simp, HB2.out.size, HB2.out.alloc HB2.out.size _⟩
    have := HR2.out.alloc (.cells #[.slice A2 n2 c2, .int .i64 0] 64)
    simpa using this
  · have hlt' : ¬ (40 : Int) < (n : Int) := by omega
    have HT : Hid (Row w w.heap.size A n c (iv .u16 (L.take 40))) := Lib.hid (by rw [List.take_of_length_le (by rw [HL.out]; omega)]; exact HR.out)
    go_enter Try.func30, Try.ntmps30
    go_wp2_with (at_builtin; go_must (refine wpList_app _ rfl (.tmp 12) (.tmp 13) 23 rfl Try.underlying23 hi hz0 rfl hz1 (by omega) HO.out rfl (HT.out.alloc _) rfl iv_one (by simp <;> omega) (by simp) ?_); intro v2 w2 ho2 hb2; obtain ⟨A2, n2, c2, rfl, hr2⟩ := ho2.shape)
    have HR2 := Lib.hid hr2
    have HB2 := Lib.hid (((Below.refl w.heap.size w).alloc (Nat.le_refl _) (.cells #[] 68)).trans hb2)
    clear ho2 hr2 hb2
    go_ret
    refine ⟨w2.heap.size, A2, n2, c2, rfl, heap_alloc_new w2 _, ?_, by simp, HB2.out.size, HB2.out.alloc HB2.out.size _⟩
    have := HR2.out.alloc (.cells #[.slice A2 n2 c2, .int .i64 0] 64)
    simpa using this


theorem Exs.newAt (w : World) (N : Nat) (hN : w.heap.size = N) (l : List (Int × Int)) (cs : Array Value) (e : TypeId) (n : Nat) (hcs : cs.toList = ev l) (hn : l.length = n) (hl : n ≤ maxLen) (hf : Fits l) :
    Exs (w.alloc (.cells cs e)) (N + 1) (some ⟨N, 0, none⟩) n n l := by
  subst hN
  exact Exs.new w l cs e n hcs hn hl hf
theorem next_keep {w : World} {b m c i q : Nat} {A : Option Addr} {L : List Int} (h : Tap w b A m c i) (hr : Row w b A m c (iv .u16 L)) :
    Tap ((w.setCell ⟨b, 1, none⟩ (.int .i64 ((i + 1 : Nat) : Int))).drewN q) b A m c (i + 1) ∧ Row ((w.setCell ⟨b, 1, none⟩ (.int .i64 ((i + 1 : Nat) : Int))).drewN q) b A m c (iv .u16 L) ∧ Below b w ((w.setCell ⟨b, 1, none⟩ (.int .i64 ((i + 1 : Nat) : Int))).drewN q) := by
  have hb : Below b w ((w.setCell ⟨b, 1, none⟩ (.int .i64 ((i + 1 : Nat) : Int))).drewN q) := below_drewN ((Below.refl _ _).setCell (p := ⟨b, 1, none⟩) (Nat.le_refl _) _) q
  exact ⟨(h.set (i + 1)).below (below_drewN (Below.refl _ _) q) (by simpa using h.lt), hr.below hb, hb⟩
theorem next_own {w : World} {b i q : Nat} {t : TypeId} {v : Value} {l : List (Int × Int)} (h : OwnE t w (b + 1) v l) : OwnE t ((w.setCell ⟨b, 1, none⟩ (.int .i64 ((i + 1 : Nat) : Int))).drewN q) (b + 1) v l :=
  (h.apart (a := ⟨b, 1, none⟩) (by simp) _).drewN q

/-- What the maker of a set says. -/
def GenE (w : World) (b : Nat) (l : List (Int × Int)) (e : Ending) (w' : World) : Prop := ∃ v, e = .returned v ∧ OwnE 31 w' (b + 1) v l ∧ Below b w w'
theorem gen_any (b m c : Nat) (A : Option Addr) (L : List Int) (w : World) (h : Tap w b A m c 0) (hr : Row w b A m c (iv .u16 L)) (hf : Fit .u16 L) (hm : m ≤ 40) :
    Calls Try.prog 29 #[.pointer (some ⟨b, 0, none⟩), .int .i64 12] w (GenE w b (gen L 12 1 (num L 0 % 5))) := by
  obtain ⟨i0, hi, hz0, hz1, hz2⟩ := info_parts infoE
  have HF := Lib.hid hf
  have HL := Lib.hid (show L.length = m by have := hr.len; rw [iv_len] at this; exact this)
  have H := Lib.hid (next_any b m c 0 5 A L w h hr hf (by omega) (by omega) (by omega))
  have HK := Lib.hid (fun q => next_keep (q := q) h hr)
  have hlt0 := h.lt
  have a0 : 0 ≤ num L 0 % 5 := by omega
  have a1 : num L 0 % 5 < 5 := by omega
  rw [show num L 0 % ((5 : Nat) : Int) = num L 0 % 5 from rfl] at H
  clear h hr hf
  generalize num L 0 % 5 = at0 at *
  go_enter Try.func29, Try.ntmps29
  go_wp2_with fail
  refine H.out.mono ?_
  rintro e w1 ⟨rfl, q, hw1⟩
  obtain ⟨t1, r1, b1⟩ := HK.out q
  rw [← hw1] at t1 r1 b1
  have HT := Lib.hid t1
  have HR := Lib.hid r1
  have HB := Lib.hid b1
  have hz1' : b + 1 ≤ w1.heap.size := t1.lt
  clear H HK hw1 t1 r1 b1
  go_wp2
  go_loopw [5, 6, 7] (fun v av kv wr => ∃ (k i : Nat) (a : Int), k ≤ 12 ∧ i ≤ 1 + 2 * k ∧ 0 ≤ a ∧ a ≤ 5 + 16 * k ∧ kv = .int .i64 k ∧ av = .int .i64 a ∧ b + 1 ≤ wr.heap.size ∧
    Hid (∃ l : List (Int × Int), l.length = k ∧ OwnE 31 wr (b + 1) v l ∧ Tap wr b A m c i ∧ Row wr b A m c (iv .u16 L) ∧ Below b w wr ∧ l ++ gen L (12 - k) i a = gen L 12 1 at0)) (fun _ _ kv _ => 12 - (intOf kv).toNat)
  case atStart => exact ⟨0, 1, at0, by omega, by omega, a0, by omega, rfl, rfl, hz1', Lib.hid ⟨[], rfl, OwnE.nil _ _ _, HT.out, HR.out, HB.out, rfl⟩⟩
  case round =>
    obtain ⟨k, i, a, hk, hik, ha0, ha1, rfl, rfl, hsz, hh⟩ := hrel
    by_cases hlt : k < 12
    · obtain ⟨l, hl, hO, hT, hR, hB, hE⟩ := hh.out
      have HO1 := Lib.hid hO
      have HT1 := Lib.hid hT
      have HR1 := Lib.hid hR
      have HB1 := Lib.hid hB
      have HE1 := Lib.hid hE
      have HLL := Lib.hid hl
      have HM := Lib.hid (more_any b m c i A wr hT)
      clear hO hT hR hB hE hh hl
      by_cases him : i < m
      · rw [decide_eq_true him] at HM
        go_wp2_with fail
        refine HM.out.mono ?_
        rintro e w2 ⟨rfl, q2, hw2⟩
        have HO2 := Lib.hid (HO1.out.drewN q2)
        have HT2 := Lib.hid (HT1.out.below (below_drewN (Below.refl wr.heap.size wr) q2) HT1.out.lt)
        have HR2 := Lib.hid (HR1.out.below (below_drewN (Below.refl b wr) q2))
        have HB2 := Lib.hid (below_drewN HB1.out q2)
        rw [← hw2] at HO2 HT2 HR2 HB2
        clear HM hw2
        have H := Lib.hid (next_any b m c i 9 A L w2 HT2.out HR2.out HF.out (by omega) (by omega) (by omega))
        have HK := Lib.hid (fun q => next_keep (q := q) HT2.out HR2.out)
        have x0 : 0 ≤ num L i % 9 := by omega
        have x1 : num L i % 9 < 9 := by omega
        rw [show num L i % ((9 : Nat) : Int) = num L i % 9 from rfl] at H
        obtain ⟨x, hx⟩ : ∃ x, x = num L i % 9 := ⟨_, rfl⟩
        rw [← hx] at H x0 x1
        have HX := Lib.hid hx
        clear hx
        go_wp2_with fail
        refine H.out.mono ?_
        rintro e w3 ⟨rfl, q3, hw3⟩
        obtain ⟨t3, r3, b3⟩ := HK.out q3
        have o3 := next_own (i := i) (q := q3) HO2.out
        rw [← hw3] at t3 r3 b3 o3
        have HT3 := Lib.hid t3
        have HR3 := Lib.hid r3
        have HB3 := Lib.hid (HB2.out.trans b3)
        have HO3 := Lib.hid o3
        have hz3 : b + 1 ≤ w3.heap.size := t3.lt
        clear H HK hw3 t3 r3 b3 o3
        have hll : l.length ≤ 12 := by have := HLL.out; omega
        have hob : ∀ g, u5.ownBlock = some g → g < w3.heap.size := fun g hg => (World.ownsRow.lt HO3.out.1 g hg).2
        have HOB := Lib.hid hob
        clear hob
        go_wp2_with (at_builtin; go_must (refine wpList_appE _ rfl (.tmp 25) (.tmp 27) 22 rfl Try.underlying22 hi hz0 rfl hz1 (by omega) ((HO3.out.alloc _).alloc _) rfl (Exs.newAt _ (w3.heap.size + 1) (by simp) [(a, 1 + x)] _ _ 1 rfl rfl (by unfold maxLen; omega) (fun z hz => by simp at hz; subst hz; simp only; omega)) rfl (by omega) (by simp; omega) ?_); intro v2 w4 ho4 hb4 hg4)
        have HO4 := Lib.hid ho4
        have bb : Below (b + 1) w3 w4 := (((Below.refl _ _).alloc hz3 _).alloc (by simp; omega) _).trans hb4
        have HT4 := Lib.hid (HT3.out.below bb (by omega))
        have HR4 := Lib.hid (HR3.out.below (bb.mono (by omega)))
        have HB4 := Lib.hid (HB3.out.trans (bb.mono (by omega)))
        have f0 : w4.cell? ⟨w3.heap.size, 0, none⟩ = some (.int .i64 a) := hg4.1.cell (cell_under (cell_alloc rfl) _) (fun hh => by
          have := HOB.out _ hh.symm
          simp only at this
          omega)
        have f1 : w4.cell? ⟨w3.heap.size, 1, none⟩ = some (.int .i64 (1 + x)) := hg4.1.cell (cell_under (cell_alloc rfl) _) (fun hh => by
          have := HOB.out _ hh.symm
          simp only at this
          omega)
        have hz4 : w3.heap.size < w4.heap.size := lt_of_some f0
        have hne : ¬ b = w3.heap.size := by omega
        clear ho4 hb4 hg4 bb
        have y0 : 0 ≤ num L (i + 1) % 6 := by omega
        have y1 : num L (i + 1) % 6 < 6 := by omega
        have H := Lib.hid (next_any b m c (i + 1) 6 A L w4.drew (HT4.out.below (B := w4.heap.size) (below_drewN (Below.refl _ _) 1) HT4.out.lt) (HR4.out.below (below_drewN (Below.refl _ _) 1)) HF.out (by omega) (by omega) (by omega))
        rw [show num L (i + 1) % ((6 : Nat) : Int) = num L (i + 1) % 6 from rfl] at H
        obtain ⟨y, hy⟩ : ∃ y, y = num L (i + 1) % 6 := ⟨_, rfl⟩
        rw [← hy] at H y0 y1
        have HY := Lib.hid hy
        clear hy
        have f2 : (w4.drew).cell? ⟨w3.heap.size, 0, none⟩ = some (.int .i64 a) := f0
        have f3 : (w4.drew).cell? ⟨w3.heap.size, 1, none⟩ = some (.int .i64 (1 + x)) := f1
        have s1 : IntKind.i64.wrap (a + (1 + x)) = a + (1 + x) := IntWalk.i64_in _ (by omega)
        have s2 : IntKind.i64.wrap (a + (1 + x) + 1) = a + (1 + x) + 1 := IntWalk.i64_in _ (by omega)
        have s3 : IntKind.i64.wrap (a + (1 + x) + 1 + y) = a + (1 + x) + 1 + y := IntWalk.i64_in _ (by omega)
        go_wp2_with fail
        go_region_held3 (fun w' => w'.cell? ⟨w3.heap.size, 0, none⟩ = some (.int .i64 a) ∧ w'.cell? ⟨w3.heap.size, 1, none⟩ = some (.int .i64 (1 + x)))
          (first | (subst hw5; go_keep) | go_keep)
          (first | (go_at_call 42; refine H.out.mono ?_; rintro e w5 ⟨rfl, q5, hw5⟩))
        obtain ⟨t5, r5, b5⟩ := next_keep (q := 1 + q5) HT4.out HR4.out
        have o5 := next_own (i := i + 1) (q := 1 + q5) HO4.out
        have hG : Hid (l ++ [(a, 1 + x)] ++ gen L (12 - (k + 1)) (i + 1 + 1) (a + (1 + x) + 1 + y) = gen L 12 1 at0) := Lib.hid (by
          rw [← HE1.out, show 12 - k = (12 - (k + 1)) + 1 by omega]
          simp only [gen]
          rw [if_pos (by rw [HL.out]; exact him), HX.out, HY.out]
          simp)
        have HT5 := Lib.hid t5
        have HR5 := Lib.hid r5
        have HB5 := Lib.hid (HB4.out.trans b5)
        have HO5 := Lib.hid o5
        have hz5 : b + 1 ≤ ((w4.setCell ⟨b, 1, none⟩ (.int .i64 ((i + 1 + 1 : Nat) : Int))).drewN (1 + q5)).heap.size := t5.lt
        have ec : ((i + 1 + 1 : Nat) : Int) = (i : Int) + 1 + 1 := by omega
        rw [ec] at HT5 HR5 HB5 HO5 hz5
        generalize (w4.setCell ⟨b, 1, none⟩ (.int .i64 ((i : Int) + 1 + 1))).drewN (1 + q5) = w6 at *
        clear t5 r5 b5 o5 ec hw5 s1 s2 s3 f0 f1 f2 f3
        go_wp2
        go_roundw
        case rel => exact ⟨k + 1, i + 1 + 1, _, by omega, by omega, by omega, by omega, by go_num, rfl, hz5, Lib.hid ⟨_, by simp [HLL.out], HO5.out, HT5.out, HR5.out, HB5.out, hG.out⟩⟩
        case measure => simp [intOf]; omega
      · rw [decide_eq_false him] at HM
        have HG : Hid (l = gen L 12 1 at0) := Lib.hid (by
          rw [← HE1.out, show 12 - k = (12 - (k + 1)) + 1 by omega]
          simp only [gen]
          rw [if_neg (by rw [HL.out]; exact him)]
          simp)
        go_wp2_with fail
        refine HM.out.mono ?_
        rintro e w2 ⟨rfl, q2, hw2⟩
        have HO2 := Lib.hid (HO1.out.drewN q2)
        have HB2 := Lib.hid (below_drewN HB1.out q2)
        rw [← hw2] at HO2 HB2
        clear HM hw2
        go_wp2
        go_ret
        exact ⟨_, rfl, by rw [← HG.out]; exact HO2.out, HB2.out⟩
    · obtain rfl : k = 12 := by omega
      obtain ⟨l, hl, hO, hT, hR, hB, hE⟩ := hh.out
      have HO1 := Lib.hid hO
      have HB1 := Lib.hid hB
      have HE1 : Hid (l = gen L 12 1 at0) := Lib.hid (by rw [← hE]; simp [gen])
      clear hO hT hR hB hE hh hl
      go_wp2
      go_ret
      exact ⟨_, rfl, by rw [← HE1.out]; exact HO1.out, HB1.out⟩

theorem set_any (A : Option Addr) (n c : Nat) (L : List Int) (w : World) (h : Row w w.heap.size A n c (iv .u16 L)) (hf : Fit .u16 L) :
    Calls Try.prog 14 #[.slice A n c] w (MadeE w (mkSet L)) := by
  have H := Lib.hid (of_any A n c L w h)
  have HF := Lib.hid (hf.take 40)
  clear h hf
  go_enter Try.func14, Try.ntmps14
  go_wp2_with fail
  refine H.out.mono ?_
  rintro e w1 ⟨b, A1, m, c1, rfl, hT, hR, hz, hwb, hB⟩
  have hm : m ≤ 40 := by
    have := hR.len
    rw [iv_len, List.length_take] at this
    omega
  have H2 := Lib.hid (gen_any b m c1 A1 (L.take 40) w1 hT hR HF.out hm)
  have HB := Lib.hid hB
  clear H hT hR hz hB hm
  go_wp2_with fail
  refine H2.out.mono ?_
  rintro e w2 ⟨v, rfl, ho, hb⟩
  have HO := Lib.hid (ho.down (B := w.heap.size) (by omega))
  have HB2 := Lib.hid (HB.out.trans (hb.mono hwb))
  clear H2 ho hb HB
  go_wp2
  go_ret
  exact ⟨_, rfl, HO.out, HB2.out⟩
end Go.Proofs.Ytolfcoaipcaoaaa
