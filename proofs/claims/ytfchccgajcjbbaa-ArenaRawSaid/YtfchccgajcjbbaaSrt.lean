/-
  An arena of the program beside its model: what the laws' steps keep between them, and how calls of either go on. Conditions: at most nine hundred extents.
-/
import Derived.Test.YtfchccgajcjbbaaSte
namespace Go.Proofs.Ytfchccgajcjbbaa
open Go.ChangeShapes Go.WideShapes Go.ChangeAt Go.RowKit
set_option maxHeartbeats 8000000
set_option maxRecDepth 100000

/-- All free bytes are 0. -/
def ZF (F : List (Int × Int)) (bs : List Int) : Prop := ∀ i : Nat, Mem F i → bs.getD i 0 = 0
theorem zf_pt {n : Int} {F A : List (Int × Int)} {bs l : List Int} {x y : Int} {o : Nat} (h : ZF F bs) (hv : Gd n F A) (hm : (x, y) ∈ A) (h0 : x ≤ o) (h1 : (o : Int) + l.length ≤ x + y) : ZF F (pt bs o l) := fun i hi => by
  rw [pt_getD]
  by_cases hc : o ≤ i ∧ i < o + l.length ∧ i < bs.length
  · exact absurd ⟨(x, y), hm, by simp only; omega, by simp only; omega⟩ ((hv.fm i).1 hi).2
  · rw [if_neg hc]
    exact h i hi
theorem zf_stB {n : Int} {F A : List (Int × Int)} {bs : List Int} {x y off v : Int} {N : Nat} (h : ZF F bs) (hv : Gd n F A) : ZF F (stB A bs x y off N v) := by
  unfold stB
  by_cases hc : stC A x y off N v = 0
  · rw [if_pos hc]
    have hn : numC A x y off N = 0 := by
      unfold stC at hc
      by_cases h0 : numC A x y off N = 0
      · exact h0
      · rw [if_neg h0] at hc; exact absurd hc h0
    obtain ⟨hm, _, hw⟩ := numC_0 hn
    obtain ⟨o0, o1⟩ := wi_is hw
    have hx := (hv.inn _ hm).1
    simp only at hx
    exact zf_pt h hv hm (by omega) (by rw [by8_len]; omega)
  · rw [if_neg hc]; exact h
theorem zf_wrB {n : Int} {F A : List (Int × Int)} {bs l : List Int} {x y off : Int} (h : ZF F bs) (hv : Gd n F A) : ZF F (wrB A bs x y off l) := by
  unfold wrB
  by_cases hc : bytC A x y off l.length = 0
  · rw [if_pos hc]
    obtain ⟨hm, _, hw⟩ := bytC_0 hc
    obtain ⟨o0, o1⟩ := wi_is hw
    have hx := (hv.inn _ hm).1
    simp only at hx
    exact zf_pt h hv hm (by omega) (by omega)
  · rw [if_neg hc]; exact h
theorem zf_cpB {n : Int} {F A : List (Int × Int)} {bs : List Int} {x y to u v fr m : Int} (h : ZF F bs) (hv : Gd n F A) : ZF F (cpB A bs x y to u v fr m) := by
  by_cases hm : (x, y) ∈ A ∧ (u, v) ∈ A
  · by_cases hn : m < 0
    · rw [(cp1 hm hn).2]; exact h
    · by_cases hw : wi to m y = true ∧ wi fr m v = true
      · rw [(cp0 hm hn hw).2]
        obtain ⟨o0, o1⟩ := wi_is hw.1
        have hx := (hv.inn _ hm.1).1
        simp only at hx
        have hl : ((bs.drop (u + fr).toNat).take m.toNat).length ≤ m.toNat := by rw [List.length_take]; omega
        exact zf_pt h hv hm.1 (by omega) (by omega)
      · rw [(cp7 hm hn hw).2]; exact h
  · rw [(cp6 hm).2]; exact h
theorem zf_free {n : Int} {F A F' A' U : List (Int × Int)} {bs : List Int} {x y : Int} (h : ZF F bs) (hv : Gd n F A) (hp : A.Perm U) (hp' : A'.Perm (wo U (x, y))) (hF : ∀ t, Mem F' t → Mem F t ∨ (Mem A t ∧ ¬ Mem A' t)) : ZF F' (frB A bs x y) := fun i hi => by
  have hz : ∀ o, (pt bs o (List.replicate y.toNat 0)).getD i 0 = if o ≤ i ∧ i < o + y.toNat ∧ i < bs.length then 0 else bs.getD i 0 := fun o => by
    rw [pt_getD, List.length_replicate]
    by_cases hc : o ≤ i ∧ i < o + y.toNat ∧ i < bs.length
    · rw [if_pos hc, if_pos hc]
      simp [List.getD, show i - o < y.toNat by omega]
    · rw [if_neg hc, if_neg hc]
  unfold frB
  rcases hF i hi with hf | ⟨⟨z, hz1, hz2⟩, hn⟩
  · have h0 := h i hf
    by_cases hm : (x, y) ∈ A
    · rw [if_pos hm, hz]
      split
      · rfl
      · exact h0
    · rw [if_neg hm]; exact h0
  · by_cases he : z = (x, y)
    · subst he
      rw [if_pos hz1, hz]
      simp only at hz2
      by_cases hl : i < bs.length
      · by_cases hc : x.toNat ≤ i ∧ i < x.toNat + y.toNat ∧ i < bs.length
        · rw [if_pos hc]
        · have hx := (hv.inn _ hz1).1
          simp only at hx
          exact absurd ⟨by omega, by omega, hl⟩ hc
      · rw [if_neg (by omega)]
        simp [List.getD, List.getElem?_eq_none (by omega : bs.length ≤ i)]
    · refine absurd ⟨z, hp'.mem_iff.2 ?_, hz2⟩ hn
      unfold wo
      rw [List.mem_filter]
      exact ⟨hp.mem_iff.1 hz1, by simpa using he⟩
theorem zf_alloc {F A F' A' U : List (Int × Int)} {bs : List Int} {r : (Int × Int) × Int} (h : ZF F bs) (hp : A.Perm U) (hp' : A'.Perm (alU U r)) (hF : ∀ t, Mem F' t → Mem F t ∨ (Mem A t ∧ ¬ Mem A' t)) : ZF F' bs := fun i hi => by
  rcases hF i hi with hf | ⟨⟨z, hz1, hz2⟩, hn⟩
  · exact h i hf
  · refine absurd ⟨z, hp'.mem_iff.2 ?_, hz2⟩ hn
    unfold alU
    split
    · exact List.mem_append_left _ (hp.mem_iff.1 hz1)
    · exact hp.mem_iff.1 hz1

/-- The colours that either writes. -/
def Sa (k : Nat) : Prop := Sp k ∨ Sm k
theorem sa_9 : ¬ Sa 9 := fun h => h.elim (sp_not (by omega) (by omega)) (sm_not (by omega) (by omega))
theorem sa_0 : ¬ Sa 0 := fun h => h.elim (sp_not (by omega) (by omega)) (sm_not (by omega) (by omega))

/-- An arena of the program at a and its model at q, in step. -/
structure Sr (w : World) (c : Nat → Nat) (a p g q g2 : Nat) (F A U : List (Int × Int)) (bs : List Int) : Prop where
  ar : Arn w c a p g F A bs
  mr : Mrn w c q g2 U bs
  gd : Gd bs.length F A
  pm : A.Perm U
  zf : ZF F bs
section
variable {w w' : World} {c c' : Nat → Nat} {a p g q g2 : Nat} {F A U : List (Int × Int)} {bs : List Int}
theorem Sr.go (h : Sr w c a p g q g2 F A U bs) (hb : Below w.heap.size w w') : Sr w' c a p g q g2 F A U bs := ⟨h.ar.go hb, h.mr.go hb, h.gd, h.pm, h.zf⟩
theorem Sr.recol (h : Sr w c a p g q g2 F A U bs) (hc : ∀ x, x < w.heap.size → c' x = c x) : Sr w c' a p g q g2 F A U bs := ⟨h.ar.recol hc, h.mr.recol hc, h.gd, h.pm, h.zf⟩
theorem Sr.len (h : Sr w c a p g q g2 F A U bs) : A.length = U.length := h.pm.length_eq
theorem Sr.ins (h : Sr w c a p g q g2 F A U bs) : Ins bs.length U := ins_of h.gd h.pm
theorem Sr.mem (h : Sr w c a p g q g2 F A U bs) (x y : Int) : (x, y) ∈ A ↔ (x, y) ∈ U := h.pm.mem_iff
end
section
variable {A U : List (Int × Int)} (hp : A.Perm U)
include hp
theorem numC_p (x y off n : Int) : numC A x y off n = numC U x y off n := by unfold numC; simp only [hp.mem_iff]
theorem bytC_p (x y off n : Int) : bytC A x y off n = bytC U x y off n := by unfold bytC; simp only [hp.mem_iff]
theorem stC_p (x y off : Int) (n : Nat) (v : Int) : stC A x y off n v = stC U x y off n v := by unfold stC; simp only [numC_p hp]
theorem stB_p (bs : List Int) (x y off : Int) (n : Nat) (v : Int) : stB A bs x y off n v = stB U bs x y off n v := by unfold stB; simp only [stC_p hp]
theorem wrB_p (bs : List Int) (x y off : Int) (l : List Int) : wrB A bs x y off l = wrB U bs x y off l := by unfold wrB; simp only [bytC_p hp]
theorem rdL_p (bs : List Int) (x y off n : Int) : rdL A bs x y off n = rdL U bs x y off n := by unfold rdL; simp only [bytC_p hp]
theorem cpC_p (x y to u v fr n : Int) : cpC A x y to u v fr n = cpC U x y to u v fr n := by unfold cpC; simp only [hp.mem_iff]
theorem cpB_p (bs : List Int) (x y to u v fr n : Int) : cpB A bs x y to u v fr n = cpB U bs x y to u v fr n := by unfold cpB; simp only [cpC_p hp]
theorem frB_p (bs : List Int) (x y : Int) : frB A bs x y = frB U bs x y := by unfold frB; simp only [hp.mem_iff]
end

/-- Program and model on their way from the world w: where each stands now. -/
structure Pos (w : World) (c : Nat → Nat) (a p g q g2 : Nat) (F A : List (Int × Int)) (b1 : List Int) (U : List (Int × Int)) (b2 : List Int) (w' : World) : Prop where
  ex : ∃ c', Arn w' c' a p g F A b1 ∧ Mrn w' c' q g2 U b2 ∧ KS Sa c w w' ∧ (∀ x, x < w.heap.size → c' x = c x) ∧ ∀ x, w'.heap.size ≤ x → c' x = 9
section
variable {w w' : World} {c : Nat → Nat} {a p g q g2 : Nat} {F A F' A' U U' : List (Int × Int)} {b1 b2 b' bs : List Int} {f : FuncId} {args : Array Value} {r : Value}
theorem Pos.start (h : Sr w c a p g q g2 F A U bs) (hb : Below w.heap.size w w') : Pos w c a p g q g2 F A bs U bs w' :=
  ⟨rc c w'.heap.size 9, (h.ar.go hb).recol (fun _ hx => rc_old hx), (h.mr.go hb).recol (fun _ hx => rc_old hx), KS.ofBelow hb, (fun _ hx => rc_old (Nat.lt_of_lt_of_le hx hb.size)), fun _ hx => rc_new hx⟩
theorem Pos.run_prog (h : Pos w c a p g q g2 F A b1 U b2 w') (hc : ∀ c', Arn w' c' a p g F A b1 → Calls Try.prog f args w' (PrE w' c' a p g F' A' b' r)) :
    Calls Try.prog f args w' fun e w'' => e = .returned r ∧ Pos w c a p g q g2 F' A' b' U b2 w'' := by
  obtain ⟨c', h1, h2, h3, h4, _⟩ := h.ex
  refine (hc c' h1).mono ?_
  rintro e w'' ⟨rfl, c'', k1, k2, k3, k4⟩
  exact ⟨rfl, c'', k1, h2.ks k2 k3, h3.trans (k2.wide (fun _ => .inl)) h4, fun x hx => (k3 x (Nat.lt_of_lt_of_le hx h3.size)).trans (h4 x hx), k4⟩
theorem Pos.run_model (h : Pos w c a p g q g2 F A b1 U b2 w') (hc : ∀ c', Mrn w' c' q g2 U b2 → Calls Try.prog f args w' (MoE w' c' q g2 U' b' r)) :
    Calls Try.prog f args w' fun e w'' => e = .returned r ∧ Pos w c a p g q g2 F A b1 U' b' w'' := by
  obtain ⟨c', h1, h2, h3, h4, _⟩ := h.ex
  refine (hc c' h2).mono ?_
  rintro e w'' ⟨rfl, c'', k1, k2, k3, k4⟩
  exact ⟨rfl, c'', h1.ks k2 k3, k1, h3.trans (k2.wide (fun _ => .inr)) h4, fun x hx => (k3 x (Nat.lt_of_lt_of_le hx h3.size)).trans (h4 x hx), k4⟩
theorem Pos.go {w'' : World} (h : Pos w c a p g q g2 F A b1 U b2 w') (hb : Below w'.heap.size w' w'') : Pos w c a p g q g2 F A b1 U b2 w'' := by
  obtain ⟨c', h1, h2, h3, h4, _⟩ := h.ex
  exact ⟨rc c' w''.heap.size 9, (h1.go hb).recol (fun _ hx => rc_old hx), (h2.go hb).recol (fun _ hx => rc_old hx), h3.trans (KS.ofBelow hb) h4, fun x hx => (rc_old (Nat.lt_of_lt_of_le hx (Nat.le_trans h3.size hb.size))).trans (h4 x hx), fun _ hx => rc_new hx⟩
theorem Pos.block (h : Pos w c a p g q g2 F A b1 U b2 w') {k : Nat} (hk : k < w.heap.size) (hc : ¬ Sa (c k)) : w'.heap[k]? = w.heap[k]? := by
  obtain ⟨c', _, _, h3, _⟩ := h.ex
  exact h3.block k hk hc
end
/-- What a step says. -/
def StE (w : World) (c : Nat → Nat) (a p g q g2 : Nat) (U : List (Int × Int)) (n : Nat) (e : Ending) (w' : World) : Prop := e = .returned (.bool true) ∧
  ∃ c' F' A' U' bs', Sr w' c' a p g q g2 F' A' U' bs' ∧ bs'.length = n ∧ U'.length ≤ U.length + 1 ∧ KS Sa c w w' ∧ ∀ x, x < w.heap.size → c' x = c x
theorem stE {w w' w0 : World} {c c0 : Nat → Nat} {a p g q g2 n : Nat} {F' A' U U' : List (Int × Int)} {bs' : List Int} (h : Pos w0 c0 a p g q g2 F' A' bs' U' bs' w') (hv : Gd bs'.length F' A') (hp : A'.Perm U') (hz : ZF F' bs') (hn : bs'.length = n) (hu : U'.length ≤ U.length + 1) (hb : Below w.heap.size w w0) (hc : ∀ x, x < w.heap.size → c0 x = c x) :
    StE w c a p g q g2 U n (.returned (.bool true)) w' := by
  obtain ⟨c', h1, h2, h3, h4, _⟩ := h.ex
  exact ⟨rfl, c', F', A', U', bs', ⟨h1, h2, hv, hp, hz⟩, hn, hu, (KS.ofBelow hb).trans h3 hc, fun x hx => (h4 x (Nat.lt_of_lt_of_le hx hb.size)).trans (hc x hx)⟩

/-- The box of a step: six bytes. -/
def Six (w : World) (b : Nat) (x : List Int) : Prop := w.heap[b]? = some (.cells (iv .u8 x).toArray 67 (0, 0))
section
variable {w w' : World} {b : Nat} {x : List Int}
theorem Six.lt (h : Six w b x) : b < w.heap.size := (Array.getElem?_eq_some_iff.1 h).1
theorem Six.go (h : Six w b x) (hb : Below w.heap.size w w') : Six w' b x := (hb.block b h.lt).trans h
theorem Six.cell (h : Six w b x) {i : Nat} {v : Int} (hi : x[i]? = some v) : w.cell? ⟨b, i, none⟩ = some (.int .u8 v) := by
  rw [cell_of_row w b i _ _ (0, 0) h]
  simp [iv, hi]
end

theorem st_no {A : List (Int × Int)} {bs : List Int} {x y off v : Int} {N : Nat} (h : numC A x y off N ≠ 0) : stC A x y off N v = numC A x y off N ∧ stB A bs x y off N v = bs := by
  have h1 : stC A x y off N v = numC A x y off N := by unfold stC; rw [if_neg h]
  exact ⟨h1, by unfold stB; rw [h1, if_neg h]⟩
theorem stB_len {A : List (Int × Int)} {bs : List Int} {x y off v : Int} {N : Nat} : (stB A bs x y off N v).length = bs.length := by
  unfold stB
  split
  · exact pt_len
  · rfl
theorem wrB_len {A : List (Int × Int)} {bs l : List Int} {x y off : Int} : (wrB A bs x y off l).length = bs.length := by
  unfold wrB
  split
  · exact pt_len
  · rfl
theorem cpB_len {A : List (Int × Int)} {bs : List Int} {x y to u v fr n : Int} : (cpB A bs x y to u v fr n).length = bs.length := by
  unfold cpB
  split
  · exact pt_len
  · rfl
theorem storeA_any (c : Nat → Nat) (a p g : Nat) (F A : List (Int × Int)) (bs : List Int) (x y off v : Int) (N : Nat) (w : World) (h : Arn w c a p g F A bs) (hv : Gd bs.length F A) (hA : A.length ≤ 900) :
    Calls Try.prog 18 #[.pointer (some ⟨a, 0, none⟩), .agg #[.int .i64 x, .int .i64 y], .int .i64 off, .int .i64 N, .int .u64 v] w (PrE w c a p g F A (stB A bs x y off N v) (.int .i64 (stC A x y off N v))) := by
  by_cases h0 : numC A x y off N = 0
  · exact store_yes c a p g F A bs x y off v N w h hv hA h0
  · rw [(st_no (bs := bs) h0).1, (st_no h0).2]
    exact store_no c a p g F A bs x y off N v _ w h hv hA rfl h0
theorem storeM_any (c : Nat → Nat) (q g : Nat) (U : List (Int × Int)) (bs : List Int) (x y off v : Int) (N : Nat) (w : World) (h : Mrn w c q g U bs) (hi : Ins bs.length U) (hU : U.length ≤ 900) (hv0 : 0 ≤ v) (hv1 : v < 18446744073709551616) :
    Calls Try.prog 19 #[.pointer (some ⟨q, 0, none⟩), .agg #[.int .i64 x, .int .i64 y], .int .i64 off, .int .i64 N, .int .u64 v] w (MoE w c q g U (stB U bs x y off N v) (.int .i64 (stC U x y off N v))) := by
  by_cases h0 : numC U x y off N = 0
  · exact storeR_yes c q g U bs x y off v N w h hi hU h0 hv0 hv1
  · rw [(st_no (bs := bs) h0).1, (st_no h0).2]
    exact storeR_no c q g U bs x y off N v _ w h hi hU rfl h0
/-- What Load says, whatever the numbers. -/
noncomputable def ldR (A : List (Int × Int)) (bs : List Int) (x y off n : Int) : Int := if numC A x y off n = 0 then ldV bs (x + off).toNat n.toNat else 0
theorem loadA_any (c : Nat → Nat) (a p g : Nat) (F A : List (Int × Int)) (bs : List Int) (x y off n : Int) (w : World) (h : Arn w c a p g F A bs) (hv : Gd bs.length F A) (hA : A.length ≤ 900) :
    Calls Try.prog 14 #[.pointer (some ⟨a, 0, none⟩), .agg #[.int .i64 x, .int .i64 y], .int .i64 off, .int .i64 n] w (LdE w (ldR A bs x y off n) (numC A x y off n)) := by
  unfold ldR
  by_cases h0 : numC A x y off n = 0
  · rw [if_pos h0, h0]
    exact load_yes c a p g F A bs x y off n w h hv hA h0
  · rw [if_neg h0]
    exact load_no c a p g F A bs _ x y off n _ w h hv hA rfl h0
theorem loadM_any (c : Nat → Nat) (q g : Nat) (U : List (Int × Int)) (bs : List Int) (x y off n : Int) (w : World) (h : Mrn w c q g U bs) (hi : Ins bs.length U) (hU : U.length ≤ 900) :
    Calls Try.prog 15 #[.pointer (some ⟨q, 0, none⟩), .agg #[.int .i64 x, .int .i64 y], .int .i64 off, .int .i64 n] w (LdE w (ldR U bs x y off n) (numC U x y off n)) := by
  unfold ldR
  by_cases h0 : numC U x y off n = 0
  · rw [if_pos h0, h0]
    exact loadR_yes c q g U bs x y off n w h hi hU h0
  · rw [if_neg h0]
    exact loadR_no c q g U bs x y off n _ w h hi hU rfl h0
theorem ldR_p {A U : List (Int × Int)} (hp : A.Perm U) (bs : List Int) (x y off n : Int) : ldR A bs x y off n = ldR U bs x y off n := by unfold ldR; rw [numC_p hp]

/-- Three stages. -/
def C3 (P0 P1 P2 : World → Prop) : Nat → World → Prop
  | 0 => P0
  | 1 => P1
  | _ => P2
theorem c3_all {P0 P1 P2 D : World → Prop} (h0 : ∀ w, P0 w → D w) (h1 : ∀ w, P1 w → D w) (h2 : ∀ w, P2 w → D w) : ∀ s w, C3 P0 P1 P2 s w → D w
  | 0, w, h => h0 w h
  | 1, w, h => h1 w h
  | _ + 2, w, h => h2 w h
/-- A box that nobody writes, in the worlds of all stages. -/
theorem some_box {w : World} {c : Nat → Nat} {t : Nat} {x y : Int} {C : Nat → World → Prop} (h : Box w t x y) (hk : ∀ s w', C s w' → ∀ k, k < w.heap.size → ¬ Sa (c k) → w'.heap[k]? = w.heap[k]?) (ht : c t = 9) (m : InSome C) : Box m.val t x y := by
  obtain ⟨w', s, hs⟩ := m
  exact (hk s w' hs t h.lt (by rw [ht]; exact sa_9)).trans h
theorem some_six {w : World} {c : Nat → Nat} {t : Nat} {l : List Int} {C : Nat → World → Prop} (h : Six w t l) (hk : ∀ s w', C s w' → ∀ k, k < w.heap.size → ¬ Sa (c k) → w'.heap[k]? = w.heap[k]?) (ht : c t = 9) (m : InSome C) : Six m.val t l := by
  obtain ⟨w', s, hs⟩ := m
  exact (hk s w' hs t h.lt (by rw [ht]; exact sa_9)).trans h
theorem Pos.ins {w w' : World} {c : Nat → Nat} {a p g q g2 : Nat} {F A U : List (Int × Int)} {b1 b2 : List Int} (_h : Pos w c a p g q g2 F A b1 U b2 w') (hi : Ins b2.length U) {b' : List Int} (hl : b'.length = b2.length) : Ins b'.length U := by rw [hl]; exact hi

theorem Row.text {w : World} {B n c : Nat} {A : Option Addr} {l : List Int} (h : Row w B A n c (iv .u8 l)) {T : ByteArray} (hT : strOfNums l = T) :
    (convert 40 9 (.slice A n c)).run Try.prog w = .ok (.string T) w := by
  subst hT
  have hln := h.len
  rw [iv_len] at hln
  rcases A with _ | ad
  · have h0 := h.nil rfl
    have hl : l = [] := List.eq_nil_of_length_eq_zero (by have := h.cap; omega)
    rw [run_convert_bytes_nil w 40 5 Try.underlying40 Try.underlying5 n c 9 Try.underlying9, hl]
    rfl
  · by_cases hn : 0 < n
    · obtain ⟨b, o, e', _, hcell⟩ := h.cells hn
      obtain rfl := Option.some.inj e'
      exact run_convert_bytes_arg w 40 5 Try.underlying40 Try.underlying5 b o n c l hln (fun i hi => by rw [hcell i hi, iv_at (by omega)]) 9 Try.underlying9
    · obtain rfl : n = 0 := by omega
      have hl : l = [] := List.eq_nil_of_length_eq_zero hln
      subst hl
      rw [run_convert_bytes_string w 40 9 5 _ 0 c Try.underlying40 Try.underlying5 Try.underlying9, run_bytesToString w _ 0 c [] (by simp [loadCells, loadCellsFrom])]
      rfl
section
variable {w w' : World} {c : Nat → Nat} {a p g q g2 : Nat} {F A U U' : List (Int × Int)} {b1 b2 b' : List Int} {f : FuncId} {args : Array Value} {r : Value}
/-- Where the program stands that has allocated or freed. -/
def PosF (w : World) (c : Nat → Nat) (a p g q g2 : Nat) (F A U1 : List (Int × Int)) (b1 : List Int) (U : List (Int × Int)) (b2 : List Int) (w' : World) : Prop :=
  ∃ F' A', Pos w c a p g q g2 F' A' b1 U b2 w' ∧ Gd b1.length F' A' ∧ A'.Perm U1 ∧ ∀ t, Mem F' t → Mem F t ∨ (Mem A t ∧ ¬ Mem A' t)
theorem Pos.run_af (h : Pos w c a p g q g2 F A b1 U b2 w') (hc : ∀ c', Arn w' c' a p g F A b1 → Calls Try.prog f args w' (AfE w' c' a p g F A U' b' r)) :
    Calls Try.prog f args w' fun e w'' => e = .returned r ∧ PosF w c a p g q g2 F A U' b' U b2 w'' := by
  obtain ⟨c', h1, h2, h3, h4, _⟩ := h.ex
  refine (hc c' h1).mono ?_
  rintro e w'' ⟨F', A', ⟨rfl, c'', k1, k2, k3, k4⟩, hv, hp, hm⟩
  exact ⟨rfl, F', A', ⟨c'', k1, h2.ks k2 k3, h3.trans (k2.wide (fun _ => .inl)) h4, fun x hx => (k3 x (Nat.lt_of_lt_of_le hx h3.size)).trans (h4 x hx), k4⟩, hv, hp, hm⟩
theorem Pos.run_model2 (h : Pos w c a p g q g2 F A b1 U b2 w') (hc : ∀ c', Mrn w' c' q g2 U b2 → (∀ x, x < w.heap.size → c' x = c x) → Calls Try.prog f args w' (MoE w' c' q g2 U' b' r)) :
    Calls Try.prog f args w' fun e w'' => e = .returned r ∧ Pos w c a p g q g2 F A b1 U' b' w'' := by
  obtain ⟨c', h1, h2, h3, h4, _⟩ := h.ex
  refine (hc c' h2 h4).mono ?_
  rintro e w'' ⟨rfl, c'', k1, k2, k3, k4⟩
  exact ⟨rfl, c'', h1.ks k2 k3, k1, h3.trans (k2.wide (fun _ => .inr)) h4, fun x hx => (k3 x (Nat.lt_of_lt_of_le hx h3.size)).trans (h4 x hx), k4⟩
theorem PosF.run_model {U1 : List (Int × Int)} (h : PosF w c a p g q g2 F A U1 b1 U b2 w') (hc : ∀ c', Mrn w' c' q g2 U b2 → Calls Try.prog f args w' (MoE w' c' q g2 U' b' r)) :
    Calls Try.prog f args w' fun e w'' => e = .returned r ∧ PosF w c a p g q g2 F A U1 b1 U' b' w'' := by
  obtain ⟨F', A', hP, h2, h3, h4⟩ := h
  exact (hP.run_model hc).mono fun e w'' ⟨he, hP'⟩ => ⟨he, F', A', hP', h2, h3, h4⟩
theorem PosF.block {U1 : List (Int × Int)} (h : PosF w c a p g q g2 F A U1 b1 U b2 w') {k : Nat} (hk : k < w.heap.size) (hc : ¬ Sa (c k)) : w'.heap[k]? = w.heap[k]? := by
  obtain ⟨F', A', hP, _⟩ := h
  exact hP.block hk hc
end
/-- Five stages of three kinds. -/
def C5 (P0 P1 P2 : World → Prop) : Nat → World → Prop
  | 0 => P0
  | 1 => P0
  | 2 => P1
  | 3 => P1
  | _ => P2
theorem c5_all {P0 P1 P2 D : World → Prop} (h0 : ∀ w, P0 w → D w) (h1 : ∀ w, P1 w → D w) (h2 : ∀ w, P2 w → D w) : ∀ s w, C5 P0 P1 P2 s w → D w
  | 0, w, h => h0 w h
  | 1, w, h => h0 w h
  | 2, w, h => h1 w h
  | 3, w, h => h1 w h
  | _ + 4, w, h => h2 w h
theorem wo_p {A U : List (Int × Int)} (_ : A.Perm U) {e : Int × Int} : (wo U e).length ≤ U.length + 1 := Nat.le_trans wo_le (by omega)

section
variable {w w' w'' : World} {c c' : Nat → Nat} {a p g q g2 : Nat} {F A U : List (Int × Int)} {b1 b2 : List Int}
theorem Pos.here (h1 : Arn w c a p g F A b1) (h2 : Mrn w c q g2 U b2) : Pos w c a p g q g2 F A b1 U b2 w :=
  ⟨rc c w.heap.size 9, h1.recol (fun _ hx => rc_old hx), h2.recol (fun _ hx => rc_old hx), KS.ofBelow (Below.refl _ _), (fun _ hx => rc_old hx), fun _ hx => rc_new hx⟩
theorem Pos.from_ (hk : KS Sa c w w') (hc : ∀ x, x < w.heap.size → c' x = c x) (h : Pos w' c' a p g q g2 F A b1 U b2 w'') : Pos w c a p g q g2 F A b1 U b2 w'' := by
  obtain ⟨c'', h1, h2, h3, h4, h5⟩ := h.ex
  exact ⟨c'', h1, h2, hk.trans h3 hc, fun x hx => (h4 x (Nat.lt_of_lt_of_le hx hk.size)).trans (hc x hx), h5⟩
end
end Go.Proofs.Ytfchccgajcjbbaa
