/-
  Events as plain functions: which are valid, what is written, what reading gives, and that the one undoes the other. Plain mathematics; no conditions beyond those that each lemma states.
-/
import Derived.Test.YtlgoiccekgjhnaaLeb
import Derived.Test.YtlgoiccekgjhnaaBts
namespace Go.Proofs.Ytlgoiccekgjhnaa

/-- An operation or a further event of the log. -/
def opB (o : Int) : Prop := (1 ≤ o ∧ o ≤ 11) ∨ o = 32 ∨ o = 33
instance (o : Int) : Decidable (opB o) := by unfold opB; infer_instance
/-- What Check returns. -/
def chkV (p o e : Int) : Int := if 1 ≤ p ∧ p ≤ 64 ∧ opB o ∧ 0 ≤ e ∧ e ≤ 29 then 0 else 1
theorem chk_ok {p o e : Int} (h : chkV p o e = 0) : 1 ≤ p ∧ p ≤ 64 ∧ opB o ∧ 0 ≤ e ∧ e ≤ 29 := by
  unfold chkV at h
  split at h
  · assumption
  · cases h
theorem chk_is {p o e : Int} (h : 1 ≤ p ∧ p ≤ 64 ∧ opB o ∧ 0 ≤ e ∧ e ≤ 29) : chkV p o e = 0 := if_pos h
theorem chk_no {p o e : Int} (h : ¬ (1 ≤ p ∧ p ≤ 64 ∧ opB o ∧ 0 ≤ e ∧ e ≤ 29)) : chkV p o e = 1 := if_neg h
theorem op_bd {o : Int} (h : opB o) : 1 ≤ o ∧ o ≤ 33 := by unfold opB at h; omega

/-- The encodings of numbers, one behind the other. -/
def encN : List Int → List Int
  | [] => []
  | x :: l => enc x.toNat ++ encN l
theorem encN_app : ∀ {l m : List Int}, encN (l ++ m) = encN l ++ encN m
  | [], _ => rfl
  | x :: l, m => by simp only [List.cons_append, encN]; rw [encN_app]; simp
theorem encN_next {l : List Int} {i : Nat} (h : i < l.length) : encN (l.take (i + 1)) = encN (l.take i) ++ enc (l.getD i 0).toNat := by
  rw [List.take_succ_eq_append_getElem h, encN_app]
  simp [encN, List.getD, h]
theorem encN_small : ∀ {l : List Int}, Small (encN l)
  | [], x, h => by simp [encN] at h
  | f :: l, x, h => by
    simp only [encN, List.mem_append] at h
    rcases h with h | h
    · exact enc_bytes _ x h
    · exact encN_small x h
/-- Each number is a word. -/
def Wds (l : List Int) : Prop := ∀ x ∈ l, 0 ≤ x ∧ x < 18446744073709551616
theorem encN_len : ∀ {l : List Int}, Wds l → (encN l).length ≤ 10 * l.length
  | [], _ => Nat.le_refl _
  | x :: l, h => by
    have h1 := h x (by simp)
    have h2 := enc_len10 (n := x.toNat) (by omega)
    have h3 := encN_len (l := l) (fun y hy => h y (by simp [hy]))
    simp only [encN, List.length_append, List.length_cons]
    omega
theorem encN_pos : ∀ {l : List Int}, l.length ≤ (encN l).length
  | [] => Nat.le_refl _
  | x :: l => by
    have := enc_pos x.toNat
    have := encN_pos (l := l)
    simp only [encN, List.length_append, List.length_cons]
    omega
/-- What Encode returns. -/
def encO (p o h a e : Int) : List Int := if chkV p o e = 0 then encN [p, o, h, a, e] else []
theorem encO_small {p o h a e : Int} : Small (encO p o h a e) := by
  unfold encO
  split
  · exact encN_small
  · intro x h; cases h

theorem Small.drop {l : List Int} (h : Small l) (p : Nat) : Small (l.drop p) := fun x hx => h x (List.mem_of_mem_drop hx)
theorem Small.take {l : List Int} (h : Small l) (p : Nat) : Small (l.take p) := fun x hx => h x (List.mem_of_mem_take hx)
theorem Small.app {l m : List Int} (h : Small l) (h' : Small m) : Small (l ++ m) := fun x hx => (List.mem_append.1 hx).elim (h x) (h' x)

/-- The place behind k numbers. -/
def rA (b : List Int) : Nat → Nat
  | 0 => 0
  | k + 1 => rA b k + (rdK (b.drop (rA b k))).toNat
/-- The number there and its error. -/
def rX (b : List Int) (k : Nat) : Int := rdX (b.drop (rA b k))
def rE (b : List Int) (k : Nat) : Int := rdE (b.drop (rA b k))
/-- The first error of k numbers. -/
def fE (b : List Int) : Nat → Int
  | 0 => 0
  | k + 1 => if fE b k = 0 then rE b k else fE b k
theorem fE_mono {b : List Int} {j k : Nat} (h : fE b j ≠ 0) (hk : j ≤ k) : fE b k = fE b j := by
  induction hk with
  | refl => rfl
  | step _ ih => simp only [fE]; rw [ih, if_neg h]
theorem fE_next {b : List Int} {k : Nat} (h : fE b k = 0) : fE b (k + 1) = rE b k := by simp only [fE]; rw [if_pos h]
theorem rA_le {b : List Int} (hs : Small b) : ∀ k, rA b k ≤ b.length
  | 0 => Nat.zero_le _
  | k + 1 => by
    have h := rA_le hs k
    obtain ⟨_, _, c, d, _⟩ := rd_bd (hs.drop (rA b k))
    rw [List.length_drop] at d
    simp only [rA]
    omega
theorem rX_bd {b : List Int} (hs : Small b) (k : Nat) : 0 ≤ rX b k ∧ rX b k < 18446744073709551616 := by
  obtain ⟨a, b', _⟩ := rd_bd (hs.drop (rA b k))
  exact ⟨a, b'⟩
/-- What Decode returns. -/
def dcE (b : List Int) : Int := if fE b 5 = 0 then (if rA b 5 < b.length then 3 else chkV (rX b 0) (rX b 1) (rX b 4)) else fE b 5
def dcV (b : List Int) (j : Nat) : Int := if dcE b = 0 then rX b j else 0

/-- From the front. -/
theorem rA_front (b : List Int) : ∀ k, rA b (k + 1) = (rdK b).toNat + rA (b.drop (rdK b).toNat) k
  | 0 => by simp [rA]
  | k + 1 => by
    have h := rA_front b k
    rw [rA, h, rA, List.drop_drop]
    omega
theorem rX_front (b : List Int) (k : Nat) : rX b (k + 1) = rX (b.drop (rdK b).toNat) k := by
  unfold rX
  rw [rA_front, List.drop_drop]
theorem rE_front (b : List Int) (k : Nat) : rE b (k + 1) = rE (b.drop (rdK b).toNat) k := by
  unfold rE
  rw [rA_front, List.drop_drop]
theorem fE_front (b : List Int) : ∀ k, fE b (k + 1) = if rdE b = 0 then fE (b.drop (rdK b).toNat) k else rdE b
  | 0 => by
    simp only [fE, rE, rA, List.drop_zero, if_true]
    split
    · assumption
    · rfl
  | k + 1 => by
    have h := fE_front b k
    rw [fE, h]
    by_cases h0 : rdE b = 0
    · simp only [h0, if_true, fE]
      rw [rE_front]
    · simp only [h0, if_false]

/-- Reading what was written. -/
theorem back_all : ∀ {l : List Int} (more : List Int), Wds l → fE (encN l ++ more) l.length = 0 ∧ rA (encN l ++ more) l.length = (encN l).length ∧ ∀ k, k < l.length → rX (encN l ++ more) k = l.getD k 0
  | [], more, _ => ⟨rfl, rfl, fun k hk => by cases hk⟩
  | x :: l, more, h => by
    have h1 := h x (by simp)
    obtain ⟨e1, e2, e3⟩ := rd_enc (n := x.toNat) (by omega) (encN l ++ more)
    obtain ⟨f1, f2, f3⟩ := back_all (l := l) more (fun y hy => h y (by simp [hy]))
    have ed : (enc x.toNat ++ (encN l ++ more)).drop (rdK (enc x.toNat ++ (encN l ++ more))).toNat = encN l ++ more := by
      rw [e2]; simp
    simp only [encN, List.length_cons, List.append_assoc]
    refine ⟨?_, ?_, ?_⟩
    · rw [fE_front, if_pos e3, ed, f1]
    · rw [rA_front, ed, f2, e2]; simp
    · intro k hk
      cases k with
      | zero =>
        unfold rX
        simp only [rA, List.drop_zero]
        rw [e1]
        simp [List.getD]
        omega
      | succ k =>
        rw [rX_front, ed, f3 k (by omega)]
        simp [List.getD]
theorem dc_back {p o h a e : Int} (hc : chkV p o e = 0) (hh : 0 ≤ h ∧ h < 18446744073709551616) (ha : 0 ≤ a ∧ a < 18446744073709551616) :
    dcE (encN [p, o, h, a, e]) = 0 ∧ dcV (encN [p, o, h, a, e]) 0 = p ∧ dcV (encN [p, o, h, a, e]) 1 = o ∧ dcV (encN [p, o, h, a, e]) 2 = h ∧ dcV (encN [p, o, h, a, e]) 3 = a ∧ dcV (encN [p, o, h, a, e]) 4 = e := by
  obtain ⟨h1, h2, h3, h4, h5⟩ := chk_ok hc
  have h6 := op_bd h3
  have hw : Wds [p, o, h, a, e] := fun x hx => by
    simp only [List.mem_cons, List.not_mem_nil, or_false] at hx
    rcases hx with rfl | rfl | rfl | rfl | rfl <;> omega
  obtain ⟨f1, f2, f3⟩ := back_all [] hw
  rw [List.append_nil] at f1 f2 f3
  have g0 := f3 0 (by simp)
  have g1 := f3 1 (by simp)
  have g2 := f3 2 (by simp)
  have g3 := f3 3 (by simp)
  have g4 := f3 4 (by simp)
  simp only [List.getD, List.getElem?_cons_zero, List.getElem?_cons_succ, Option.getD_some] at g0 g1 g2 g3 g4
  simp only [List.length_cons, List.length_nil, Nat.zero_add, Nat.reduceAdd] at f1 f2
  have hd : dcE (encN [p, o, h, a, e]) = 0 := by
    unfold dcE
    rw [if_pos f1, f2, if_neg (Nat.lt_irrefl _), g0, g1, g4, hc]
  unfold dcV
  simp only [hd, if_true]
  exact ⟨trivial, g0, g1, g2, g3, g4⟩
theorem cut_all : ∀ {l : List Int} {m : Nat}, Wds l → m < (encN l).length → fE ((encN l).take m) l.length = 2
  | [], m, _, hm => by cases hm
  | x :: l, m, h, hm => by
    have h1 := h x (by simp)
    simp only [encN, List.length_cons, List.length_append] at hm ⊢
    rw [fE_front]
    by_cases hk : m < (enc x.toNat).length
    · obtain ⟨_, _, e3⟩ := rd_cut (n := x.toNat) (by omega) hk
      rw [List.take_append_of_le_length (by omega), e3]
      rfl
    · obtain ⟨e1, e2, e3⟩ := rd_enc (n := x.toNat) (by omega) ((encN l).take (m - (enc x.toNat).length))
      rw [List.take_append, List.take_of_length_le (by omega), e3, if_pos rfl, e2]
      simp only [Int.toNat_natCast, List.drop_left]
      exact cut_all (fun y hy => h y (by simp [hy])) (by omega)
theorem dc_cut {p o h a e : Int} {m : Nat} (hc : chkV p o e = 0) (hh : 0 ≤ h ∧ h < 18446744073709551616) (ha : 0 ≤ a ∧ a < 18446744073709551616) (hm : m < (encN [p, o, h, a, e]).length) :
    dcE ((encN [p, o, h, a, e]).take m) = 2 := by
  obtain ⟨h1, h2, h3, h4, h5⟩ := chk_ok hc
  have h6 := op_bd h3
  have hw : Wds [p, o, h, a, e] := fun x hx => by
    simp only [List.mem_cons, List.not_mem_nil, or_false] at hx
    rcases hx with rfl | rfl | rfl | rfl | rfl <;> omega
  have := cut_all hw hm
  simp only [List.length_cons, List.length_nil, Nat.zero_add, Nat.reduceAdd] at this
  unfold dcE
  rw [this]
  rfl
/-- Different events have different encodings. -/
theorem enc_apart {p o h a e p' o' h' a' e' : Int} (hc : chkV p o e = 0) (hh : 0 ≤ h ∧ h < 18446744073709551616) (ha : 0 ≤ a ∧ a < 18446744073709551616)
    (hc' : chkV p' o' e' = 0) (hh' : 0 ≤ h' ∧ h' < 18446744073709551616) (ha' : 0 ≤ a' ∧ a' < 18446744073709551616)
    (he : encN [p, o, h, a, e] = encN [p', o', h', a', e']) : p = p' ∧ o = o' ∧ h = h' ∧ a = a' ∧ e = e' := by
  obtain ⟨_, g0, g1, g2, g3, g4⟩ := dc_back hc hh ha
  obtain ⟨_, k0, k1, k2, k3, k4⟩ := dc_back hc' hh' ha'
  rw [he] at g0 g1 g2 g3 g4
  exact ⟨g0.symm.trans k0, g1.symm.trans k1, g2.symm.trans k2, g3.symm.trans k3, g4.symm.trans k4⟩
end Go.Proofs.Ytlgoiccekgjhnaa
