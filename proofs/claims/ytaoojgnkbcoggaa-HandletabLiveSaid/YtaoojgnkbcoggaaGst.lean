/-
  Slots and their generations as plain functions, and what always holds of them. No conditions beyond those that each lemma states.
-/
import Derived.Test.YtaoojgnkbcoggaaPou
namespace Go.Proofs.Ytaoojgnkbcoggaa
open Go.ChangeShapes Go.WideShapes Go.RowKit
set_option maxHeartbeats 4000000

/-- The state of the slots: the first generation, each slot's last generation (0: none), whether it is live, the free slots, the number of retired ones. -/
structure Gs where
  first : Int
  gen : List Int
  live : List Bool
  free : List Int
  gone : Int
def Gs.new (n : Nat) (first : Int) : Gs := ⟨first, List.replicate n 0, List.replicate n false, rng n, 0⟩
/-- What Live says of a number. -/
def Gs.of (s : Gs) (k : Int) : Int × Bool := if 0 ≤ k ∧ s.live[k.toNat]? = some true then (s.gen.getD k.toNat 0, true) else (0, false)
/-- The generation that a slot gets next. -/
def Gs.nxt (s : Gs) (j : Nat) : Int := if s.gen.getD j 0 = 0 then s.first else s.gen.getD j 0 + 1
/-- What Issue returns, and the state behind it. -/
def Gs.issV (s : Gs) (d : Int) : Int × Int × Int := if s.free = [] then (0, 0, 17) else (tkX 0 s.free d, s.nxt (tkX 0 s.free d).toNat, 0)
def Gs.issN (s : Gs) (d : Int) : Gs := if s.free = [] then s else { s with gen := s.gen.set (tkX 0 s.free d).toNat (s.nxt (tkX 0 s.free d).toNat), live := s.live.set (tkX 0 s.free d).toNat true, free := tkL 0 s.free d }
/-- What End returns, and the state behind it. -/
def Gs.endV (s : Gs) (k : Int) : Int := if (s.of k).2 = true then 0 else 6
def Gs.endN (s : Gs) (k : Int) : Gs :=
  if (s.of k).2 = true then (if s.gen.getD k.toNat 0 = 4294967295 then { s with live := s.live.set k.toNat false, gone := s.gone + 1 } else { s with live := s.live.set k.toNat false, free := s.free ++ [k] }) else s
/-- The number of live slots. -/
def Gs.lv (s : Gs) : Nat := s.live.count true
structure Gs.Wf (s : Gs) (N : Nat) : Prop where
  gl : s.gen.length = N
  ll : s.live.length = N
  f1 : 1 ≤ s.first ∧ s.first ≤ 4294967295
  fr : ∀ x ∈ s.free, ∃ j : Nat, x = (j : Int) ∧ j < N ∧ s.live[j]? = some false ∧ s.gen.getD j 0 < 4294967295
  nd : s.free.Nodup
  gb : ∀ j, j < N → s.gen.getD j 0 = 0 ∨ (s.first ≤ s.gen.getD j 0 ∧ s.gen.getD j 0 ≤ 4294967295)
  lg : ∀ j, s.live[j]? = some true → s.gen.getD j 0 ≠ 0
  ex : ∀ j, j < N → s.live[j]? = some false → (j : Int) ∈ s.free ∨ s.gen.getD j 0 = 4294967295
  ct : s.gone + (s.free.length : Int) + (s.lv : Int) = (N : Int)
  g0 : 0 ≤ s.gone
theorem count_set {l : List Bool} {j : Nat} {b b' : Bool} (h : l[j]? = some b) : ((l.set j b').count true : Int) = (l.count true : Int) - (if b = true then 1 else 0) + (if b' = true then 1 else 0) := by
  induction l generalizing j with
  | nil => simp at h
  | cons x l ih =>
    cases j with
    | zero =>
      simp at h
      subst h
      rw [List.set_cons_zero, List.count_cons, List.count_cons]
      cases x <;> cases b' <;> simp <;> omega
    | succ j =>
      have := ih (j := j) (by simpa using h)
      rw [List.set_cons_succ, List.count_cons, List.count_cons]
      omega
theorem getD_set_eq {l : List Int} {j : Nat} {v : Int} (h : j < l.length) : (l.set j v).getD j 0 = v := by
  rw [List.getD_eq_getElem?_getD, List.getElem?_set_self h]
  rfl
theorem getD_set_ne {l : List Int} {i j : Nat} {v : Int} (h : i ≠ j) : (l.set i v).getD j 0 = l.getD j 0 := by
  rw [List.getD_eq_getElem?_getD, List.getElem?_set_ne h, List.getD_eq_getElem?_getD]
section
variable {s : Gs} {N : Nat} {d k : Int}
theorem Gs.wf_new {n : Nat} {first : Int} (h : 1 ≤ first ∧ first ≤ 4294967295) : (Gs.new n first).Wf n := by
  have hg : ∀ j, (List.replicate n (0 : Int)).getD j 0 = 0 := fun j => by
    rw [List.getD_eq_getElem?_getD, List.getElem?_replicate]
    split <;> rfl
  refine ⟨by simp [Gs.new], by simp [Gs.new], h, fun x hx => ?_, rng_nodup, fun j _ => .inl (hg j), fun j hj => ?_, fun j hj _ => .inl ?_, ?_, by simp [Gs.new]⟩
  · obtain ⟨j, rfl, hj⟩ := rng_mem hx
    exact ⟨j, rfl, hj, by simp [Gs.new, hj], by show (List.replicate n (0 : Int)).getD j 0 < _; rw [hg]; omega⟩
  · exfalso
    simp only [Gs.new, List.getElem?_replicate] at hj
    split at hj <;> simp at hj
  · simp only [Gs.new, rng]
    exact List.mem_map.2 ⟨j, List.mem_range.2 hj, rfl⟩
  · simp [Gs.new, Gs.lv, rng_len, List.count_replicate]
theorem Gs.Wf.sl (h : s.Wf N) (hf : s.free ≠ []) : ∃ j : Nat, tkX 0 s.free d = (j : Int) ∧ j < N ∧ s.live[j]? = some false ∧ s.gen.getD j 0 < 4294967295 := h.fr _ (tk_mem hf)
theorem Gs.Wf.nx (h : s.Wf N) {j : Nat} (hj : j < N) (hg : s.gen.getD j 0 < 4294967295) : s.first ≤ s.nxt j ∧ s.nxt j ≤ 4294967295 ∧ s.gen.getD j 0 < s.nxt j := by
  unfold Gs.nxt
  have h1 := h.f1
  rcases h.gb j hj with e | e
  · rw [if_pos e]
    omega
  · rw [if_neg (by omega)]
    omega
theorem Gs.Wf.iss (h : s.Wf N) : (s.issN d).Wf N := by
  unfold Gs.issN
  by_cases hf : s.free = []
  · rw [if_pos hf]
    exact h
  · rw [if_neg hf]
    obtain ⟨j, hx, hj, hl, hg⟩ := h.sl (d := d) hf
    have hperm := tk_perm (z := 0) (d := d) hf
    have hnd : (tkX 0 s.free d :: tkL 0 s.free d).Nodup := hperm.nodup_iff.2 h.nd
    rw [List.nodup_cons] at hnd
    rw [hx] at hnd ⊢
    rw [Int.toNat_natCast]
    have hnx := h.nx hj hg
    have hlen := tkL_len (z := 0) (l := s.free) (d := d)
    have hp : 0 < s.free.length := List.length_pos_iff.2 hf
    have hne : ∀ y ∈ tkL 0 s.free d, ∃ i : Nat, y = (i : Int) ∧ i < N ∧ i ≠ j ∧ s.live[i]? = some false ∧ s.gen.getD i 0 < 4294967295 := fun y hy => by
      obtain ⟨i, rfl, h1, h2, h3⟩ := h.fr y (tk_sub hy)
      exact ⟨i, rfl, h1, fun e => hnd.1 (e ▸ hy), h2, h3⟩
    refine ⟨by simp [h.gl], by simp [h.ll], h.f1, fun y hy => ?_, hnd.2, fun i hi => ?_, fun i hi => ?_, fun i hi hli => ?_, ?_, h.g0⟩
    · obtain ⟨i, rfl, h1, h2, h3, h4⟩ := hne y hy
      refine ⟨i, rfl, h1, ?_, ?_⟩
      · show (s.live.set j true)[i]? = _
        rw [List.getElem?_set_ne (by omega), h3]
      · show (s.gen.set j _).getD i 0 < _
        rw [getD_set_ne (by omega)]
        exact h4
    · show (s.gen.set j (s.nxt j)).getD i 0 = 0 ∨ _ ≤ (s.gen.set j (s.nxt j)).getD i 0 ∧ (s.gen.set j (s.nxt j)).getD i 0 ≤ _
      by_cases e : j = i
      · subst e
        rw [getD_set_eq (by rw [h.gl]; exact hj)]
        exact .inr ⟨hnx.1, hnx.2.1⟩
      · rw [getD_set_ne e]
        exact h.gb i hi
    · show (s.gen.set j (s.nxt j)).getD i 0 ≠ 0
      by_cases e : j = i
      · subst e
        rw [getD_set_eq (by rw [h.gl]; exact hj)]
        have := h.f1
        omega
      · rw [getD_set_ne e]
        refine h.lg i ?_
        have hi' : (s.live.set j true)[i]? = some true := hi
        rwa [List.getElem?_set_ne e] at hi'
    · have hi' : (s.live.set j true)[i]? = some false := hli
      have e : j ≠ i := fun e => by
        subst e
        rw [List.getElem?_set_self (by rw [h.ll]; exact hj)] at hi'
        cases hi'
      rw [List.getElem?_set_ne e] at hi'
      show (i : Int) ∈ tkL 0 s.free d ∨ (s.gen.set j (s.nxt j)).getD i 0 = _
      rw [getD_set_ne e]
      rcases h.ex i hi hi' with h1 | h1
      · left
        have h2 := hperm.mem_iff.2 h1
        rw [hx] at h2
        rcases List.mem_cons.1 h2 with h3 | h3
        · exact absurd (Int.ofNat.inj h3).symm e
        · exact h3
      · exact .inr h1
    · have hc := count_set (b' := true) hl
      have hct := h.ct
      simp only [Gs.lv] at hct ⊢
      simp at hc
      rw [hlen]
      omega
theorem Gs.of_live (h : (s.of k).2 = true) : 0 ≤ k ∧ s.live[k.toNat]? = some true ∧ (s.of k).1 = s.gen.getD k.toNat 0 := by
  unfold Gs.of at h ⊢
  split at h
  · rename_i hh
    rw [if_pos hh]
    exact ⟨hh.1, hh.2, rfl⟩
  · cases h
theorem Gs.Wf.end_ (h : s.Wf N) : (s.endN k).Wf N := by
  unfold Gs.endN
  by_cases hk : (s.of k).2 = true
  · rw [if_pos hk]
    obtain ⟨hk0, hkl, _⟩ := Gs.of_live hk
    obtain ⟨j, rfl⟩ : ∃ j : Nat, k = (j : Int) := ⟨k.toNat, by omega⟩
    rw [Int.toNat_natCast] at hkl ⊢
    have hj : j < N := by rw [← h.ll]; exact (List.getElem?_eq_some_iff.1 hkl).1
    have hc := count_set (b' := false) hkl
    simp at hc
    have hct := h.ct
    simp only [Gs.lv] at hct
    have hnot : ∀ y ∈ s.free, ∀ i : Nat, y = (i : Int) → i ≠ j := fun y hy i hi e => by
      obtain ⟨i', h1, _, h2, _⟩ := h.fr y hy
      have : i' = j := by rw [hi] at h1; have := Int.ofNat.inj h1; omega
      rw [this, hkl] at h2
      cases h2
    have hlv : ∀ i, (s.live.set j false)[i]? = some true → s.live[i]? = some true := fun i hi => by
      by_cases e : j = i
      · subst e
        rw [List.getElem?_set_self (by rw [h.ll]; exact hj)] at hi
        cases hi
      · rwa [List.getElem?_set_ne e] at hi
    have hlf : ∀ i, i ≠ j → (s.live.set j false)[i]? = s.live[i]? := fun i e => List.getElem?_set_ne (by omega)
    have hlj : (s.live.set j false)[j]? = some false := List.getElem?_set_self (by rw [h.ll]; exact hj)
    split
    · rename_i hmx
      refine ⟨h.gl, by simp [h.ll], h.f1, fun y hy => ?_, h.nd, h.gb, fun i hi => h.lg i (hlv i hi), fun i hi hli => ?_, ?_, by have := h.g0; show 0 ≤ s.gone + 1; omega⟩
      · obtain ⟨i, h1, h2, h3, h4⟩ := h.fr y hy
        exact ⟨i, h1, h2, (hlf i (hnot y hy i h1)).trans h3, h4⟩
      · by_cases e : i = j
        · subst e
          exact .inr hmx
        · exact h.ex i hi ((hlf i e).symm.trans hli)
      · show s.gone + 1 + (s.free.length : Int) + ((s.live.set j false).count true : Int) = _
        omega
    · rename_i hmx
      refine ⟨h.gl, by simp [h.ll], h.f1, fun y hy => ?_, ?_, h.gb, fun i hi => h.lg i (hlv i hi), fun i hi hli => ?_, ?_, h.g0⟩
      · rcases List.mem_append.1 hy with hy | hy
        · obtain ⟨i, h1, h2, h3, h4⟩ := h.fr y hy
          exact ⟨i, h1, h2, (hlf i (hnot y hy i h1)).trans h3, h4⟩
        · simp only [List.mem_singleton] at hy
          subst hy
          refine ⟨j, rfl, hj, hlj, ?_⟩
          show s.gen.getD j 0 < _
          rcases h.gb j hj with e | e <;> omega
      · show (s.free ++ [(j : Int)]).Nodup
        rw [List.nodup_append]
        refine ⟨h.nd, by simp, fun a ha b hb e => ?_⟩
        simp only [List.mem_singleton] at hb
        exact hnot a ha j (e.trans hb) rfl
      · show (i : Int) ∈ s.free ++ [(j : Int)] ∨ _
        by_cases e : i = j
        · subst e
          exact .inl (by simp)
        · rcases h.ex i hi ((hlf i e).symm.trans hli) with h1 | h1
          · exact .inl (by simp [h1])
          · exact .inr h1
      · show s.gone + ((s.free ++ [(j : Int)]).length : Int) + ((s.live.set j false).count true : Int) = _
        rw [List.length_append]
        simp
        omega
  · rw [if_neg hk]
    exact h
theorem Gs.iss_ok (h : s.Wf N) (hf : s.free ≠ []) : ∃ j : Nat, s.issV d = ((j : Int), s.nxt j, 0) ∧ tkX 0 s.free d = (j : Int) ∧ j < N ∧ s.live[j]? = some false ∧ s.gen.getD j 0 < 4294967295 := by
  obtain ⟨j, hx, hj, hl, hg⟩ := h.sl (d := d) hf
  refine ⟨j, ?_, hx, hj, hl, hg⟩
  unfold Gs.issV
  rw [if_neg hf, hx, Int.toNat_natCast]
end
end Go.Proofs.Ytaoojgnkbcoggaa
