/-
  What the operations of a ledger give, over plain lists, and what they keep. No conditions beyond those that each lemma states.
-/
import Derived.Test.YtmmlelmkgnhofaaBor
namespace Go.Proofs.Ytmmlelmkgnhofaa
set_option linter.unusedVariables false
set_option linter.unusedSimpArgs false

/-- A number of the kind int. -/
def Ri (o : Int) : Prop := (Lit.int .i64 o).wf = true
/-- How an object is lent: 0 if it is not. -/
def md (o : Int) (L : List Bo) : Int := match ofL o L with
  | [] => 0
  | x :: _ => x.m
/-- How often an object is lent to a holder. -/
def cnt (o h : Int) (L : List Bo) : Int := match hasL o h L with
  | none => 0
  | some b => b.c
def lendE (o m : Int) (L : List Bo) : Int := if ¬ (m = 1 ∨ m = 2) then 1 else if md o L = 2 ∨ (m = 2 ∧ md o L ≠ 0) then 14 else 0
def lendL (o h m : Int) (L : List Bo) : List Bo := if lendE o m L = 0 then putL ⟨o, h, m, cnt o h L + 1⟩ L else L
def relE (o h : Int) (L : List Bo) : Int := if (hasL o h L).isSome then 0 else 13
def relL (o h : Int) (L : List Bo) : List Bo := match hasL o h L with
  | none => L
  | some b => if b.c = 1 then remL o h L else putL ⟨o, h, b.m, b.c - 1⟩ L
def ownE (o a : Int) (L : List Bo) : Int := if md o L = 2 ∨ (md o L = 1 ∧ (a = 2 ∨ a = 3)) then 14 else 0
def othE (o p a : Int) (L : List Bo) : Int := match hasL o p L with
  | none => 13
  | some b => if a = 3 ∨ a = 4 then 13 else if b.m = 1 ∧ a = 2 then 14 else 0
def accE (o p : Int) (own : Bool) (a : Int) (L : List Bo) : Int := if ¬ (1 ≤ a ∧ a ≤ 4) then 1 else if own then ownE o a L else othE o p a L
def endO (o : Int) (L : List Bo) : List Bo := L.filter fun x => decide (x.o ≠ o)
def endH (h : Int) (L : List Bo) : List Bo := L.filter fun x => decide (x.h ≠ h)
/-- How many objects a holder has borrowed. -/
def heldN (h : Int) (L : List Bo) : Nat := (L.filter fun x => decide (x.h = h)).length
/-- What every ledger is: in order; modes; counts; an exclusive borrow is alone. -/
structure Wl (N : Nat) (L : List Bo) : Prop where
  srt : Srt L
  mo : ∀ x ∈ L, x.m = 1 ∨ x.m = 2
  ps : ∀ x ∈ L, 1 ≤ x.c ∧ x.c ≤ N
  ex : ∀ x ∈ L, x.m = 2 → x.c = 1 ∧ ∀ y ∈ L, y.o = x.o → y = x
  ri : ∀ x ∈ L, Ri x.o
  len : L.length ≤ N
section
variable {N M : Nat} {L : List Bo} {o h m a p : Int} {b x y : Bo}
theorem Wl.nil : Wl N [] := ⟨List.Pairwise.nil, by simp, by simp, by simp, by simp, by simp⟩
theorem Wl.mono (H : Wl N L) (hn : N ≤ M) : Wl M L := ⟨H.srt, H.mo, fun x hx => by have := H.ps x hx; omega, H.ex, H.ri, Nat.le_trans H.len hn⟩
theorem Wl.filter (H : Wl N L) (q : Bo → Bool) : Wl N (L.filter q) :=
  ⟨H.srt.filter q, fun x hx => H.mo x (List.mem_filter.1 hx).1, fun x hx => H.ps x (List.mem_filter.1 hx).1,
    fun x hx hm => ⟨(H.ex x (List.mem_filter.1 hx).1 hm).1, fun y hy e => (H.ex x (List.mem_filter.1 hx).1 hm).2 y (List.mem_filter.1 hy).1 e⟩,
    fun x hx => H.ri x (List.mem_filter.1 hx).1, Nat.le_trans (List.length_filter_le _ _) H.len⟩
theorem put_len : (putL b L).length ≤ L.length + 1 := by
  unfold putL
  rw [List.length_append, List.length_cons]
  have : (L.filter fun x => decide (Blt x b)).length + (L.filter fun x => decide (Blt b x)).length ≤ L.length := by
    induction L with
    | nil => simp
    | cons y L ih =>
      by_cases h1 : Blt y b
      · have h2 : ¬ Blt b y := fun h2 => (h1.trans h2).irr
        simp [h1, h2]
        omega
      · by_cases h2 : Blt b y
        · simp [h1, h2]
          omega
        · simp [h1, h2]
          omega
  omega
theorem md_none : md o L = 0 → (∀ x ∈ L, x.m = 1 ∨ x.m = 2) → ofL o L = [] := fun h H => by
  unfold md at h
  cases e : ofL o L with
  | nil => rfl
  | cons x r =>
    rw [e] at h
    have := H x (mem_of.1 (by rw [e]; simp : x ∈ ofL o L)).1
    simp only at h
    omega
theorem md_of_nil (h : ofL o L = []) : md o L = 0 := by unfold md; rw [h]
theorem md_mem (hm : md o L ≠ 0) : ∃ x ∈ L, x.o = o ∧ x.m = md o L := by
  unfold md at *
  cases e : ofL o L with
  | nil => rw [e] at hm; simp at hm
  | cons x r =>
    have := mem_of.1 (by rw [e]; simp : x ∈ ofL o L)
    exact ⟨x, this.1, this.2, rfl⟩
theorem Wl.md_all (H : Wl N L) (hx : x ∈ L) : md x.o L = x.m := by
  by_cases h2 : x.m = 2
  · have h3 := (H.ex x hx h2).2
    have hz : md x.o L ≠ 0 := fun e => by
      have := md_none e H.mo
      have h4 : x ∈ ofL x.o L := mem_of.2 ⟨hx, rfl⟩
      rw [this] at h4
      cases h4
    obtain ⟨y, h4, h5, h6⟩ := md_mem hz
    rw [← h6, h3 y h4 h5]
  · have h1 : x.m = 1 := by have := H.mo x hx; omega
    have hz : md x.o L ≠ 0 := fun e => by
      have := md_none e H.mo
      have h4 : x ∈ ofL x.o L := mem_of.2 ⟨hx, rfl⟩
      rw [this] at h4
      cases h4
    obtain ⟨y, h4, h5, h6⟩ := md_mem hz
    rcases H.mo y h4 with h7 | h7
    · omega
    · have := (H.ex y h4 h7).2 x hx h5.symm
      rw [this] at h2
      exact absurd h7 h2
theorem Wl.md_or (H : Wl N L) : md o L = 0 ∨ md o L = 1 ∨ md o L = 2 := by
  by_cases h : md o L = 0
  · exact .inl h
  · obtain ⟨y, h4, h5, h6⟩ := md_mem h
    rw [← h6]
    exact .inr (H.mo y h4)
theorem cnt_le (H : Wl N L) : 0 ≤ cnt o h L ∧ cnt o h L ≤ N := by
  unfold cnt
  cases e : hasL o h L with
  | none => simp
  | some b =>
    have := H.ps b (has_some e).1
    simp only
    omega
theorem Wl.lend (H : Wl N L) (ho : Ri o) : Wl (N + 1) (lendL o h m L) := by
  unfold lendL
  split
  · rename_i h0
    unfold lendE at h0
    split at h0
    · omega
    · rename_i hm
      split at h0
      · omega
      · rename_i hx
        have hm' : m = 1 ∨ m = 2 := by omega
        have hmo := H.md_or (o := o)
        refine ⟨H.srt.put _, fun x hx => ?_, fun x hx => ?_, fun x hx h2 => ?_, fun x hx => ?_, Nat.le_trans put_len (by have := H.len; omega)⟩
        · rcases mem_put.1 hx with rfl | ⟨h1, _⟩
          · exact hm'
          · exact H.mo x h1
        · rcases mem_put.1 hx with rfl | ⟨h1, _⟩
          · have := cnt_le (o := o) (h := h) H
            simp only
            omega
          · have := H.ps x h1
            omega
        · rcases mem_put.1 hx with rfl | ⟨h1, h3⟩
          · simp only at h2
            have hz : md o L = 0 := by omega
            have hnil := md_none hz H.mo
            have hno : ∀ y ∈ L, y.o ≠ o := fun y hy e => by
              have : y ∈ ofL o L := mem_of.2 ⟨hy, e⟩
              rw [hnil] at this
              cases this
            refine ⟨?_, fun y hy e => ?_⟩
            · have : hasL o h L = none := List.find?_eq_none.2 fun y hy => by simp [hno y hy]
              simp [cnt, this]
            · rcases mem_put.1 hy with rfl | ⟨h4, _⟩
              · rfl
              · exact absurd e (hno y h4)
          · have h4 := H.md_all h1
            have h5 : x.o ≠ o := fun e => by
              rw [e] at h4
              omega
            refine ⟨(H.ex x h1 h2).1, fun y hy e => ?_⟩
            rcases mem_put.1 hy with rfl | ⟨h6, _⟩
            · exact absurd e.symm h5
            · exact (H.ex x h1 h2).2 y h6 e
        · rcases mem_put.1 hx with rfl | ⟨h1, _⟩
          · exact ho
          · exact H.ri x h1
  · exact H.mono (by omega)
theorem Wl.has_cnt (H : Wl N L) (e : hasL o h L = some b) : b ∈ L ∧ b.o = o ∧ b.h = h ∧ 1 ≤ b.c ∧ b.c ≤ N ∧ (b.m = 1 ∨ b.m = 2) := by
  obtain ⟨h1, h2, h3⟩ := has_some e
  have := H.ps b h1
  exact ⟨h1, h2, h3, this.1, this.2, H.mo b h1⟩
theorem Wl.rel (H : Wl N L) : Wl N (relL o h L) := by
  unfold relL
  cases e : hasL o h L with
  | none => exact H
  | some b =>
    obtain ⟨h1, h2, h3, h4, h5, h6⟩ := H.has_cnt e
    simp only
    split
    · exact H.filter _
    · rename_i hc
      have hlen : (putL ⟨o, h, b.m, b.c - 1⟩ L).length ≤ L.length := by
        have hn : ∀ (K : List Bo), b ∈ K → (K.filter fun x => decide (Blt x ⟨o, h, b.m, b.c - 1⟩)).length + (K.filter fun x => decide (Blt ⟨o, h, b.m, b.c - 1⟩ x)).length + 1 ≤ K.length := by
          have hk : ∀ (K : List Bo), (K.filter fun x => decide (Blt x ⟨o, h, b.m, b.c - 1⟩)).length + (K.filter fun x => decide (Blt ⟨o, h, b.m, b.c - 1⟩ x)).length ≤ K.length := by
            intro K
            have := put_len (b := ⟨o, h, b.m, b.c - 1⟩) (L := K)
            unfold putL at this
            rw [List.length_append, List.length_cons] at this
            omega
          intro K
          induction K with
          | nil => intro hb; cases hb
          | cons y K ih =>
            intro hb
            rcases List.mem_cons.1 hb with rfl | hb
            · have q1 : ¬ Blt b ⟨o, h, b.m, b.c - 1⟩ := by unfold Blt; simp only; omega
              have q2 : ¬ Blt ⟨o, h, b.m, b.c - 1⟩ b := by unfold Blt; simp only; omega
              have := hk K
              simp [q1, q2]
              omega
            · have := ih hb
              by_cases q1 : Blt y ⟨o, h, b.m, b.c - 1⟩
              · have q2 : ¬ Blt ⟨o, h, b.m, b.c - 1⟩ y := fun q2 => (q1.trans q2).irr
                simp [q1, q2]
                omega
              · by_cases q2 : Blt ⟨o, h, b.m, b.c - 1⟩ y
                · simp [q1, q2]
                  omega
                · simp [q1, q2]
                  omega
        have := hn L h1
        unfold putL
        rw [List.length_append, List.length_cons]
        omega
      refine ⟨H.srt.put _, fun x hx => ?_, fun x hx => ?_, fun x hx hx2 => ?_, fun x hx => ?_, Nat.le_trans hlen H.len⟩
      · rcases mem_put.1 hx with rfl | ⟨h1, _⟩
        · exact h6
        · exact H.mo x h1
      · rcases mem_put.1 hx with rfl | ⟨h1, _⟩
        · simp only
          omega
        · exact H.ps x h1
      · rcases mem_put.1 hx with rfl | ⟨h7, _⟩
        · simp only at hx2
          exact absurd (H.ex b h1 hx2).1 hc
        · refine ⟨(H.ex x h7 hx2).1, fun y hy he => ?_⟩
          rcases mem_put.1 hy with rfl | ⟨h8, _⟩
          · simp only at he
            have := (H.ex x h7 hx2).2 b h1 (by omega)
            rw [← this] at hx2
            exact absurd (H.ex b h1 hx2).1 hc
          · exact (H.ex x h7 hx2).2 y h8 he
      · rcases mem_put.1 hx with rfl | ⟨h1, _⟩
        · rw [← h2]
          exact H.ri b ‹_›
        · exact H.ri x h1
theorem Wl.endO (H : Wl N L) : Wl N (endO o L) := H.filter _
theorem Wl.endH (H : Wl N L) : Wl N (endH h L) := H.filter _
theorem of_endO_ne {o' : Int} (hne : o' ≠ o) : ofL o' (endO o L) = ofL o' L := by
  unfold ofL endO
  rw [List.filter_filter]
  refine List.filter_congr fun x _ => ?_
  by_cases e : x.o = o' <;> simp [e, hne]
theorem of_endO_same : ofL o (endO o L) = [] := by
  unfold ofL endO
  rw [List.filter_filter]
  exact List.filter_eq_nil_iff.2 fun x _ => by simp; 
end
end Go.Proofs.Ytmmlelmkgnhofaa
