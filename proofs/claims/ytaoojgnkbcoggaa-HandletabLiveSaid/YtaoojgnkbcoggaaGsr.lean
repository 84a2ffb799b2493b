/-
  The landed slots in memory: what it means that a block holds slots of a state, how that is kept, stores into a slot, calls of the pool. No conditions beyond those that each lemma states.
-/
import Derived.Test.YtaoojgnkbcoggaaGmi
namespace Go.Proofs.Ytaoojgnkbcoggaa
open Go.ChangeShapes Go.WideShapes Go.RowKit
set_option linter.unusedVariables false
set_option maxHeartbeats 4000000
set_option maxRecDepth 100000

/-- A slot: its generation (the next one while it isn't live), whether it is live. -/
def st2 : Enc (Int × Bool) where
  k := 2
  ev := fun x => [.int .i64 x.1, .bool x.2]
  len := fun _ => rfl
  one := fun x u hu => by
    simp only [List.mem_cons, List.not_mem_nil, or_false] at hu
    rcases hu with rfl | rfl <;> rfl
  pos := by omega
/-- The slots of a state as the program holds them. -/
def Gs.sts (s : Gs) : List (Int × Bool) := (List.range s.gen.length).map fun j => (if s.live.getD j false = true then s.gen.getD j 0 else s.nxt j, s.live.getD j false)
/-- A slot that is retired. -/
def big (x : Int × Bool) : Bool := decide (4294967295 < x.1)
theorem big_no {x : Int × Bool} (h : x.1 ≤ 4294967295) : big x = false := decide_eq_false (by omega)
theorem big_yes {x : Int × Bool} (h : 4294967295 < x.1) : big x = true := decide_eq_true h
theorem bgetD_set_eq {l : List Bool} {j : Nat} {v : Bool} (h : j < l.length) : (l.set j v).getD j false = v := by
  rw [List.getD_eq_getElem?_getD, List.getElem?_set_self h]
  rfl
theorem bgetD_set_ne {l : List Bool} {i j : Nat} {v : Bool} (h : i ≠ j) : (l.set i v).getD j false = l.getD j false := by
  rw [List.getD_eq_getElem?_getD, List.getElem?_set_ne h, List.getD_eq_getElem?_getD]
section
variable {s : Gs} {N j : Nat} {d : Int}
theorem Gs.sts_len : s.sts.length = s.gen.length := by simp [Gs.sts]
theorem Gs.sts_at (h : j < s.gen.length) : s.sts[j]? = some (if s.live.getD j false = true then s.gen.getD j 0 else s.nxt j, s.live.getD j false) := by
  simp [Gs.sts, List.getElem?_map, List.getElem?_range h]
theorem Gs.sts_live (h : j < s.gen.length) (hl : s.live[j]? = some true) : s.sts[j]? = some (s.gen.getD j 0, true) := by
  rw [Gs.sts_at h]
  simp [List.getD_eq_getElem?_getD, hl]
theorem Gs.sts_dead (h : j < s.gen.length) (hl : s.live[j]? = some false) : s.sts[j]? = some (s.nxt j, false) := by
  rw [Gs.sts_at h]
  simp [List.getD_eq_getElem?_getD, hl]
theorem Gs.sts_new {n : Nat} {first : Int} : (Gs.new n first).sts = List.replicate n (first, false) := by
  refine List.ext_getElem? fun i => ?_
  by_cases hi : i < n
  · rw [Gs.sts_dead (by simp [Gs.new]; exact hi) (by simp [Gs.new, hi]), List.getElem?_replicate, if_pos hi]
    simp [Gs.nxt, Gs.new, List.getD_eq_getElem?_getD, hi]
  · rw [List.getElem?_eq_none (by rw [Gs.sts_len]; simp [Gs.new]; omega), List.getElem?_eq_none (by simp; omega)]
theorem Gs.sts_iss (h : s.Wf N) (hf : s.free ≠ []) (hx : tkX 0 s.free d = (j : Int)) (hj : j < N) : (s.issN d).sts = s.sts.set j (s.nxt j, true) := by
  have hg : j < s.gen.length := by rw [h.gl]; exact hj
  have hl : j < s.live.length := by rw [h.ll]; exact hj
  unfold Gs.issN
  rw [if_neg hf, hx, Int.toNat_natCast]
  refine List.ext_getElem? fun i => ?_
  by_cases hi : i < s.gen.length
  · rw [Gs.sts_at (by simpa using hi)]
    by_cases e : j = i
    · subst e
      rw [List.getElem?_set_self (by rw [Gs.sts_len]; exact hg)]
      simp only [bgetD_set_eq hl, if_true, getD_set_eq hg]
    · rw [List.getElem?_set_ne e, Gs.sts_at hi]
      simp only [bgetD_set_ne e, getD_set_ne e, Gs.nxt]
  · rw [List.getElem?_eq_none (by rw [Gs.sts_len]; simp; omega), List.getElem?_eq_none (by rw [List.length_set, Gs.sts_len]; omega)]
theorem Gs.sts_end (h : s.Wf N) (hlv : s.live[j]? = some true) : (s.endN (j : Int)).sts = s.sts.set j (s.gen.getD j 0 + 1, false) := by
  have hl : j < s.live.length := (List.getElem?_eq_some_iff.1 hlv).1
  have hg : j < s.gen.length := by rw [h.gl, ← h.ll]; exact hl
  have hne := h.lg j hlv
  have e0 : (s.endN (j : Int)).gen = s.gen ∧ (s.endN (j : Int)).live = s.live.set j false ∧ (s.endN (j : Int)).first = s.first := by
    have hof : (s.of (j : Int)).2 = true := by
      unfold Gs.of
      rw [if_pos ⟨by omega, by rw [Int.toNat_natCast]; exact hlv⟩]
    unfold Gs.endN
    rw [if_pos hof, Int.toNat_natCast]
    split <;> exact ⟨rfl, rfl, rfl⟩
  obtain ⟨e1, e2, e3⟩ := e0
  refine List.ext_getElem? fun i => ?_
  by_cases hi : i < s.gen.length
  · rw [Gs.sts_at (by rw [e1]; exact hi), e1, e2]
    by_cases e : j = i
    · subst e
      rw [List.getElem?_set_self (by rw [Gs.sts_len]; exact hg)]
      simp only [bgetD_set_eq hl, Gs.nxt, e1, if_neg hne]
      simp
    · rw [List.getElem?_set_ne e, Gs.sts_at hi]
      simp only [bgetD_set_ne e, Gs.nxt, e1, e3]
  · rw [List.getElem?_eq_none (by rw [Gs.sts_len, e1]; omega), List.getElem?_eq_none (by rw [List.length_set, Gs.sts_len]; omega)]
end
theorem countP_set {l : List (Int × Bool)} {j : Nat} {x y : Int × Bool} (h : l[j]? = some x) : (l.set j y).countP big + (if big x = true then 1 else 0) = l.countP big + (if big y = true then 1 else 0) := by
  induction l generalizing j with
  | nil => simp at h
  | cons z l ih =>
    cases j with
    | zero =>
      simp at h
      subst h
      rw [List.set_cons_zero, List.countP_cons, List.countP_cons]
      omega
    | succ j =>
      have := ih (j := j) (by simpa using h)
      rw [List.set_cons_succ, List.countP_cons, List.countP_cons]
      omega
/-- The number of retired slots, as the program counts it. -/
def Gs.Rt (s : Gs) : Prop := (s.sts.countP big : Int) = s.gone
section
variable {s : Gs} {N : Nat} {d k : Int}
theorem Gs.rt_new {n : Nat} {first : Int} (h : first ≤ 4294967295) : (Gs.new n first).Rt := by
  unfold Gs.Rt
  rw [Gs.sts_new, List.countP_replicate]
  have : big (first, false) = false := big_no h
  simp [this, Gs.new]
theorem Gs.Rt.iss (hr : s.Rt) (h : s.Wf N) : (s.issN d).Rt := by
  by_cases hf : s.free = []
  · unfold Gs.issN
    rw [if_pos hf]
    exact hr
  · obtain ⟨j, _, hx, hj, hl, hg⟩ := Gs.iss_ok (d := d) h hf
    have hnx := (h.nx hj hg).2.1
    unfold Gs.Rt at *
    have hc := countP_set (y := (s.nxt j, true)) (Gs.sts_dead (s := s) (by rw [h.gl]; exact hj) hl)
    have b1 : big (s.nxt j, true) = false := big_no hnx
    have b2 : big (s.nxt j, false) = false := big_no hnx
    rw [Gs.sts_iss h hf hx hj]
    rw [b1, b2] at hc
    have e : (s.issN d).gone = s.gone := by
      unfold Gs.issN
      rw [if_neg hf]
    rw [e]
    simp only [Bool.false_eq_true, if_false] at hc
    omega
theorem Gs.Rt.end_ (hr : s.Rt) (h : s.Wf N) : (s.endN k).Rt := by
  by_cases hk : (s.of k).2 = true
  · obtain ⟨hk0, hkl, _⟩ := Gs.of_live hk
    obtain ⟨j, rfl⟩ : ∃ j : Nat, k = (j : Int) := ⟨k.toNat, by omega⟩
    rw [Int.toNat_natCast] at hkl
    have hj : j < N := by rw [← h.ll]; exact (List.getElem?_eq_some_iff.1 hkl).1
    unfold Gs.Rt at *
    have hc := countP_set (y := (s.gen.getD j 0 + 1, false)) (Gs.sts_live (s := s) (by rw [h.gl]; exact hj) hkl)
    rw [Gs.sts_end h hkl]
    have hb := h.gb j hj
    have hne := h.lg j hkl
    have b1 : big (s.gen.getD j 0, true) = false := big_no (by show s.gen.getD j 0 ≤ _; omega)
    rw [b1] at hc
    by_cases hm : s.gen.getD j 0 = 4294967295
    · have e : (s.endN (j : Int)).gone = s.gone + 1 := by
        unfold Gs.endN
        rw [if_pos hk, Int.toNat_natCast, if_pos hm]
      have b2 : big (s.gen.getD j 0 + 1, false) = true := big_yes (by show _ < s.gen.getD j 0 + 1; omega)
      rw [b2] at hc
      rw [e]
      simp only [Bool.false_eq_true, if_true, if_false] at hc
      omega
    · have e : (s.endN (j : Int)).gone = s.gone := by
        unfold Gs.endN
        rw [if_pos hk, Int.toNat_natCast, if_neg hm]
      have b2 : big (s.gen.getD j 0 + 1, false) = false := big_no (by show s.gen.getD j 0 + 1 ≤ _; omega)
      rw [b2] at hc
      rw [e]
      simp only [Bool.false_eq_true, if_false] at hc
      omega
  · unfold Gs.endN
    rw [if_neg hk]
    exact hr
end

/-- The block p holds these slots and this pool; what it writes has the colour k. -/
structure Slr (w : World) (c : Nat → Nat) (k p : Nat) (l : List (Int × Bool)) (fr : List Int) : Prop where
  ex : ∃ v q d, w.heap[p]? = some (.cells #[v, .pointer (some ⟨q, 0, none⟩)] 105 (0, 0)) ∧ OwnK st2 107 w 0 v l ∧ PolI w d 1 q fr ∧ c p = k ∧ d p = 0 ∧
    (∀ g, v.ownBlock = some g → c g = k ∧ d g = 0 ∧ g ≠ p) ∧ ∀ g, g < w.heap.size → d g = 1 ∧ c g = k ∨ d g = 0
section
variable {w w' : World} {c c' : Nat → Nat} {k j p i : Nat} {l : List (Int × Bool)} {fr fr' : List Int} {a : Int} {b : Bool}
theorem Slr.lt (h : Slr w c k p l fr) : p < w.heap.size := by
  obtain ⟨v, q, d, h1, _⟩ := h.ex
  exact (Array.getElem?_eq_some_iff.1 h1).1
theorem Slr.kept (h : Slr w c k p l fr) (hk : Kept c j w w') (hjk : j ≠ k) (hc : ∀ g, g < w.heap.size → c' g = c g) : Slr w' c' k p l fr := by
  have hlt := h.lt
  obtain ⟨v, q, d, h0, h1, h2, h3, h4, h5, h6⟩ := h.ex
  have hkd : Kept d 0 w w' := ⟨hk.os, hk.tape, hk.output, hk.size, fun g hg hne => hk.block g hg (by
    rcases h6 g hg with e | e
    · rw [e.2]
      omega
    · exact absurd e hne)⟩
  refine ⟨v, q, fun g => if g < w.heap.size then d g else 0, (hk.block p hlt (by omega)).trans h0, h1.keptC hk (fun g hg => by rw [(h5 g hg).1]; omega), h2.kept hkd (by omega) (fun g hg => if_pos hg), (hc p hlt).trans h3, by simp only [if_pos hlt]; exact h4, fun g hg => ?_, fun g hg => ?_⟩
  · have hgl := (h1.ge hg).2
    simp only [if_pos hgl]
    exact ⟨(hc g hgl).trans (h5 g hg).1, (h5 g hg).2⟩
  · by_cases hgl : g < w.heap.size
    · simp only [if_pos hgl]
      rw [hc g hgl]
      exact h6 g hgl
    · exact .inr (if_neg hgl)
theorem Slr.go (h : Slr w c k p l fr) (hb : Below w.heap.size w w') : Slr w' c k p l fr := h.kept (j := k + 1) (Kept.ofBelow hb) (by omega) (fun _ _ => rfl)
/-- What lies in the block, and in its row. -/
theorem Slr.cells (h : Slr w c k p l fr) : ∃ A n cap q d, w.cell? ⟨p, 0, none⟩ = some (.slice A n cap) ∧ w.cell? ⟨p, 1, none⟩ = some (.pointer (some ⟨q, 0, none⟩)) ∧ Kws st2 w w.heap.size A n cap l ∧ PolI w d 1 q fr := by
  obtain ⟨v, q, d, h0, h1, h2, _⟩ := h.ex
  obtain ⟨A, n, cap, rfl, hk⟩ := h1.shape
  exact ⟨A, n, cap, q, d, cell_of_row w p 0 _ _ _ h0, cell_of_row w p 1 _ _ _ h0, hk, h2⟩
theorem Kws.st_at {B n cap : Nat} {A : Option Addr} (h : Kws st2 w B A n cap l) (hi : i < n) :
    ∃ g o x, l[i]? = some x ∧ A = some ⟨g, o, none⟩ ∧ g < B ∧ w.cell? ⟨g, o + i * 2, none⟩ = some (.int .i64 x.1) ∧ w.cell? ⟨g, o + i * 2 + 1, none⟩ = some (.bool x.2) := by
  obtain ⟨g, o, x, h1, h2, h3, h4⟩ := h.at_ hi
  have h5 := h4 0 _ rfl
  have h6 := h4 1 _ rfl
  exact ⟨g, o, x, h1, h2, h3, h5, h6⟩
theorem Slr.put (h : Slr w c k p l fr) {u u' : Value} {x y : Int × Bool} {o : Nat} (hx : l[i]? = some x) (hu : (st2.ev x)[o]? = some u) (hy : st2.ev y = (st2.ev x).set o u') :
    ∃ g cap, w.cell? ⟨p, 0, none⟩ = some (.slice (some ⟨g, 0, none⟩) l.length cap) ∧ l.length ≤ cap ∧ cap ≤ maxLen ∧ w.cell? ⟨g, i * 2 + o, none⟩ = some u ∧ w.frozen? ⟨g, i * 2 + o, none⟩ = false ∧
      Slr (w.setCell ⟨g, i * 2 + o, none⟩ u') c k p (l.set i y) fr ∧ Kept c k w (w.setCell ⟨g, i * 2 + o, none⟩ u') := by
  obtain ⟨v, q, d, h0, h1, h2, h3, h4, h5, h6⟩ := h.ex
  have hi : i < l.length := (List.getElem?_eq_some_iff.1 hx).1
  obtain ⟨g, cap, cur, R, rfl, _, _, _, hlc, hcm, _⟩ := h1.opn (by omega)
  obtain ⟨g', cap', e, _, _, q1, q2, q3⟩ := h1.store hx hu hy
  cases e
  have hs := run_setAt w g (i * 2 + o) u'
  have h5g := h5 g rfl
  have hp := h.lt
  refine ⟨g, cap, cell_of_row w p 0 _ _ _ h0, hlc, hcm, q1, q2, ⟨_, q, d, (hs.block p hp (fun e => h5g.2.2 (Option.some.inj e).symm)).trans h0, q3, h2.kept (j := 0) (Kept.ofGrown hs (fun r e => by cases e; exact h5g.2.1)) (by omega) (fun _ _ => rfl), h3, h4, h5, fun r hr => h6 r (by simpa [World.setCell] using hr)⟩, Kept.ofGrown hs (fun r e => by cases e; exact h5g.1)⟩
theorem Slr.setGen (h : Slr w c k p l fr) (hx : l[i]? = some (a, b)) (y : Int) :
    ∃ g cap, w.cell? ⟨p, 0, none⟩ = some (.slice (some ⟨g, 0, none⟩) l.length cap) ∧ l.length ≤ cap ∧ cap ≤ maxLen ∧ w.cell? ⟨g, i * 2, none⟩ = some (.int .i64 a) ∧ w.frozen? ⟨g, i * 2, none⟩ = false ∧
      Slr (w.setCell ⟨g, i * 2, none⟩ (.int .i64 y)) c k p (l.set i (y, b)) fr ∧ Kept c k w (w.setCell ⟨g, i * 2, none⟩ (.int .i64 y)) := h.put (y := (y, b)) (o := 0) hx rfl rfl
theorem Slr.setLive (h : Slr w c k p l fr) (hx : l[i]? = some (a, b)) (y : Bool) :
    ∃ g cap, w.cell? ⟨p, 0, none⟩ = some (.slice (some ⟨g, 0, none⟩) l.length cap) ∧ l.length ≤ cap ∧ cap ≤ maxLen ∧ w.cell? ⟨g, i * 2 + 1, none⟩ = some (.bool b) ∧ w.frozen? ⟨g, i * 2 + 1, none⟩ = false ∧
      Slr (w.setCell ⟨g, i * 2 + 1, none⟩ (.bool y)) c k p (l.set i (a, y)) fr ∧ Kept c k w (w.setCell ⟨g, i * 2 + 1, none⟩ (.bool y)) := h.put (y := (a, y)) (o := 1) hx rfl rfl
/-- A call that writes the pool only. -/
theorem Slr.pool (h : Slr w c k p l fr) : ∃ q d, w.cell? ⟨p, 1, none⟩ = some (.pointer (some ⟨q, 0, none⟩)) ∧ PolI w d 1 q fr ∧
    (∀ w' fr', PolI w' (rc d w.heap.size 1) 1 q fr' → Kept d 1 w w' → Slr w' (rc c w.heap.size k) k p l fr' ∧ Kept c k w w') ∧ ∀ w' fr', PolI w' d 1 q fr' → Kept d 1 w w' → Slr w' (rc c w.heap.size k) k p l fr' ∧ Kept c k w w' := by
  have hp := h.lt
  obtain ⟨v, q, d0, h0, h1, h2, h3, h4, h5, h6⟩ := h.ex
  have hall : ∀ w' fr' d d', (∀ g, g < w.heap.size → d g = d0 g) → (∀ g, g < w.heap.size → d' g = d0 g) → (∀ g, w.heap.size ≤ g → d' g = 1 ∨ d' g = 0) → PolI w' d' 1 q fr' → Kept d 1 w w' → Slr w' (rc c w.heap.size k) k p l fr' ∧ Kept c k w w' := fun w' fr' d d' hd0 hd hd2 hP hk => by
    have hkc : Kept c k w w' := ⟨hk.os, hk.tape, hk.output, hk.size, fun g hg hne => hk.block g hg (fun e => by
      rw [hd0 g hg] at e
      rcases h6 g hg with e1 | e1
      · exact hne e1.2
      · omega)⟩
    refine ⟨⟨v, q, d', (hk.block p hp (by rw [hd0 p hp]; omega)).trans h0, h1.keptC hk (fun g hg => by rw [hd0 g (h1.ge hg).2, (h5 g hg).2.1]; omega), hP, (rc_old hp).trans h3, (hd p hp).trans h4, fun g hg => ?_, fun g hg => ?_⟩, hkc⟩
    · have hgl := (h1.ge hg).2
      exact ⟨(rc_old hgl).trans (h5 g hg).1, (hd g hgl).trans (h5 g hg).2.1, (h5 g hg).2.2⟩
    · by_cases hgl : g < w.heap.size
      · rw [hd g hgl, rc_old hgl]
        exact h6 g hgl
      · rw [rc_new (by omega)]
        rcases hd2 g (by omega) with e | e
        · exact .inl ⟨e, rfl⟩
        · exact .inr e
  have e1 : ∀ g, g < w.heap.size → (fun g => if g < w.heap.size then d0 g else 0) g = d0 g := fun g hg => if_pos hg
  exact ⟨q, fun g => if g < w.heap.size then d0 g else 0, cell_of_row w p 1 _ _ _ h0, h2.recol e1, fun w' fr' hP hk => hall w' fr' _ _ e1 (fun g hg => (rc_old hg).trans (e1 g hg)) (fun g hg => .inl (rc_new hg)) hP hk, fun w' fr' hP hk => hall w' fr' _ _ e1 e1 (fun g hg => .inr (if_neg (by omega))) hP hk⟩
end
/-- The slots of a state. -/
def Sls (w : World) (c : Nat → Nat) (k p : Nat) (s : Gs) : Prop := Slr w c k p s.sts s.free ∧ s.Rt
end Go.Proofs.Ytaoojgnkbcoggaa
