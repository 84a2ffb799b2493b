/-
  Plain facts on decimal numerals and on cutting a text at a sign, which the proofs of this seat use. No Go in sight, no conditions beyond those that each lemma states.
-/
import Derived.Lib.ParseIntBMem
import Derived.Lib.ItoaNum
import Derived.Lib.Bytealg
namespace Go.Proofs.YtbmajggpfojnkaaDoor
open Go.Lib

theorem ofNat48 (d : Nat) (h : d < 10) : (UInt8.ofNat (48 + d)).toNat = 48 + d := by
  simp only [UInt8.toNat_ofNat']; omega

/-- One digit more at the end of a numeral. -/
theorem parseM_snoc (M : Nat) (hM : M ≤ 4294967295) (d : Nat) (hd : d < 10) : ∀ (l : List UInt8) (acc v : Nat), parseUintM M acc l = .ok v → v * 10 + d ≤ M → parseUintM M acc (l ++ [UInt8.ofNat (48 + d)]) = .ok (v * 10 + d)
  | [], acc, v, h, hv => by
    obtain rfl : acc = v := by simpa [parseUintM] using h
    have e := ofNat48 d hd
    have h1 : ¬ 1844674407370955162 ≤ acc := by omega
    have h2 : ¬ M < acc * 10 + (48 + d - 48) := by omega
    simp only [List.nil_append, parseUintM, e]
    rw [if_pos (by omega), if_neg h1, if_neg h2]
    congr 1; omega
  | c :: l, acc, v, h, hv => by
    rw [List.cons_append]
    unfold parseUintM at h ⊢
    split at h
    · rename_i h1
      split at h
      · cases h
      · rename_i h2
        split at h
        · cases h
        · rename_i h3
          rw [if_pos h1, if_neg h2, if_neg h3]
          exact parseM_snoc M hM d hd l _ _ h hv
    · cases h

theorem parseM_digits (M : Nat) (hM : M ≤ 4294967295) (u : Nat) (h : u ≤ M) : parseUintM M 0 (decDigits u) = .ok u := by
  induction u using Nat.strongRecOn with
  | _ u ih =>
    rw [decDigits]
    split
    · rename_i hlt
      have := parseM_snoc M hM u hlt [] 0 0 rfl (by omega)
      simpa using this
    · rename_i hge
      have := parseM_snoc M hM (u % 10) (by omega) (decDigits (u / 10)) 0 (u / 10) (ih (u / 10) (by omega) (by omega)) (by omega)
      rw [this]
      congr 1; omega

/-- What a numeral is made of. -/
theorem digits_all (u : Nat) : ∀ c ∈ decDigits u, 48 ≤ c.toNat ∧ c.toNat ≤ 57 := by
  induction u using Nat.strongRecOn with
  | _ u ih =>
    rw [decDigits]
    split
    · rename_i hlt
      intro c hc
      obtain rfl : c = UInt8.ofNat (48 + u) := by simpa using hc
      rw [ofNat48 u hlt]; omega
    · rename_i hge
      intro c hc
      rw [List.mem_append] at hc
      rcases hc with hc | hc
      · exact ih (u / 10) (by omega) c hc
      · obtain rfl : c = UInt8.ofNat (48 + u % 10) := by simpa using hc
        rw [ofNat48 _ (by omega)]; omega
theorem digits_ne (u : Nat) : decDigits u ≠ [] := by
  rw [decDigits]; split <;> simp
/-- The first digit is 0 only for the number 0. -/
theorem digits_head (u : Nat) (h : 1 ≤ u) : ∃ c l, decDigits u = c :: l ∧ c.toNat ≠ 48 := by
  induction u using Nat.strongRecOn with
  | _ u ih =>
    rw [decDigits]
    split
    · rename_i hlt
      exact ⟨_, [], rfl, by rw [ofNat48 u hlt]; omega⟩
    · rename_i hge
      obtain ⟨c, l, e, hc⟩ := ih (u / 10) (by omega) (by omega)
      exact ⟨c, l ++ [UInt8.ofNat (48 + u % 10)], by rw [e]; rfl, hc⟩
theorem digits_len (u : Nat) (h : u < 4294967296) : (decDigits u).length ≤ 10 := by
  have k : ∀ (n u : Nat), u < 10 ^ (n + 1) → (decDigits u).length ≤ n + 1 := by
    intro n
    induction n with
    | zero => intro u hu; rw [decDigits, dif_pos (by omega)]; simp
    | succ n ih =>
      intro u hu
      rw [decDigits]
      split
      · simp
      · have := ih (u / 10) (by rw [Nat.pow_succ] at hu; omega)
        simp; omega
  exact k 9 u (by omega)

/-- A numeral without a leading zero, at most M. -/
def lead0 (l : List UInt8) : Bool := decide (1 < l.length) && l.head? == some 48
def numP (M : Nat) (l : List UInt8) : Option Nat :=
  if lead0 l then none else if l = [] then none else match parseUintM M 0 l with | .ok u => some u | _ => none

theorem lead0_digits (u : Nat) : lead0 (decDigits u) = false := by
  by_cases h : u = 0
  · subst h; rw [decDigits]; rfl
  · obtain ⟨c, l, e, hc⟩ := digits_head u (by omega)
    rw [e]
    have : (some c == some (48 : UInt8)) = false := by
      rw [beq_eq_false_iff_ne]; intro hh; apply hc; rw [Option.some.inj hh]; rfl
    simp only [lead0, List.head?_cons, this, Bool.and_false]
theorem numP_digits (M : Nat) (hM : M ≤ 4294967295) (u : Nat) (h : u ≤ M) : numP M (decDigits u) = some u := by
  unfold numP
  rw [lead0_digits, if_neg (by simp), if_neg (digits_ne u), parseM_digits M hM u h]
theorem parseM_le (M : Nat) : ∀ (l : List UInt8) (acc v : Nat), acc ≤ M → parseUintM M acc l = .ok v → v ≤ M
  | [], acc, v, ha, h => by obtain rfl : acc = v := by simpa [parseUintM] using h
                            exact ha
  | c :: l, acc, v, ha, h => by
    unfold parseUintM at h
    split at h
    · split at h
      · cases h
      · split at h
        · cases h
        · exact parseM_le M l _ _ (by omega) h
    · cases h
theorem numP_le {M : Nat} {l : List UInt8} {u : Nat} (h : numP M l = some u) : u ≤ M := by
  unfold numP at h
  split at h
  · cases h
  · split at h
    · cases h
    · split at h
      · rename_i v hv
        obtain rfl := Option.some.inj h
        exact parseM_le M l 0 _ (Nat.zero_le _) hv
      · cases h
/-- A text with a slash is no numeral. -/
theorem parseM_slash (M : Nat) : ∀ (l : List UInt8) (acc : Nat), (47 : UInt8) ∈ l → ∀ v, parseUintM M acc l ≠ .ok v
  | [], _, h => by cases h
  | c :: l, acc, h => by
    intro v hv
    unfold parseUintM at hv
    split at hv
    · rename_i hc
      split at hv
      · cases hv
      · split at hv
        · cases hv
        · rcases List.mem_cons.1 h with rfl | h
          · simp at hc
          · exact parseM_slash M l _ h v hv
    · cases hv
theorem numP_slash (M : Nat) (l : List UInt8) (h : (47 : UInt8) ∈ l) : numP M l = none := by
  unfold numP
  split
  · rfl
  · split
    · rfl
    · split
      · rename_i v hv; exact absurd hv (parseM_slash M l 0 h v)
      · rfl
theorem numP_nil (M : Nat) : numP M [] = none := by unfold numP; split <;> rfl

/-- The text up to the first slash, and what follows it. -/
def cut1 : List UInt8 → List UInt8
  | [] => []
  | c :: l => if c = 47 then [] else c :: cut1 l
def cut2 : List UInt8 → List UInt8
  | [] => []
  | c :: l => if c = 47 then l else cut2 l
theorem cut_miss : ∀ (l : List UInt8), indexByte l 47 = -1 → cut1 l = l ∧ cut2 l = []
  | [], _ => ⟨rfl, rfl⟩
  | c :: l, h => by
    unfold indexByte at h
    by_cases hc : c = 47
    · subst hc; simp at h
    · have hb : (c == 47) = false := by simpa using hc
      rw [hb] at h
      have h2 : indexByte l 47 = -1 := by
        by_cases h3 : indexByte l 47 = -1
        · exact h3
        · have := indexByte_ge l 47
          have hb3 : (indexByte l 47 == -1) = false := by simpa using h3
          rw [hb3] at h; simp at h; omega
      obtain ⟨e1, e2⟩ := cut_miss l h2
      simp [cut1, cut2, if_neg hc, e1, e2]
theorem cut_hit : ∀ (l : List UInt8) (i : Nat), indexByte l 47 = i → i < l.length ∧ cut1 l = l.take i ∧ cut2 l = l.drop (i + 1)
  | [], i, h => by unfold indexByte at h; omega
  | c :: l, i, h => by
    unfold indexByte at h
    by_cases hc : c = 47
    · subst hc
      simp at h
      obtain rfl : i = 0 := by omega
      simp [cut1, cut2]
    · have hb : (c == 47) = false := by simpa using hc
      rw [hb] at h
      by_cases h3 : indexByte l 47 = -1
      · have hb3 : (indexByte l 47 == -1) = true := by simpa using h3
        rw [hb3] at h; simp at h
      · have hb3 : (indexByte l 47 == -1) = false := by simpa using h3
        rw [hb3] at h
        simp at h
        have := indexByte_ge l 47
        obtain ⟨j, rfl⟩ : ∃ j, i = j + 1 := ⟨i - 1, by omega⟩
        obtain ⟨k1, k2, k3⟩ := cut_hit l j (by omega)
        simp only [cut1, cut2, if_neg hc, k2, k3]
        exact ⟨by simp; omega, rfl, rfl⟩
theorem cut_append (a b : List UInt8) (h : ∀ c ∈ a, c ≠ 47) : cut1 (a ++ 47 :: b) = a ∧ cut2 (a ++ 47 :: b) = b := by
  induction a with
  | nil => simp [cut1, cut2]
  | cons c l ih =>
    have hc : c ≠ 47 := h c (by simp)
    obtain ⟨e1, e2⟩ := ih (fun c hc => h c (List.mem_cons_of_mem _ hc))
    simp [cut1, cut2, if_neg hc, e1, e2]
theorem cut1_len (l : List UInt8) : (cut1 l).length ≤ l.length := by
  induction l with
  | nil => simp [cut1]
  | cons c l ih => unfold cut1; split <;> simp; omega
theorem cut2_len (l : List UInt8) : (cut2 l).length ≤ l.length := by
  induction l with
  | nil => simp [cut2]
  | cons c l ih => unfold cut2; split <;> simp; omega
theorem digits_noslash (u : Nat) : ∀ c ∈ decDigits u, c ≠ 47 := by
  intro c hc h
  have := digits_all u c hc
  subst h
  simp at this

/-- The text of a word's parts. -/
def fmtP (a b c : Nat) : List UInt8 := decDigits a ++ 47 :: (decDigits b ++ 47 :: decDigits c)
/-- The three parts that a text names. -/
def parseP (l : List UInt8) : Option (Nat × Nat × Nat) :=
  match numP 16777215 (cut1 l), numP 4294967295 (cut1 (cut2 l)), numP 255 (cut2 (cut2 l)) with
  | some a, some b, some c => some (a, b, c)
  | _, _, _ => none
theorem parse_fmt (a b c : Nat) (ha : a ≤ 16777215) (hb : b ≤ 4294967295) (hc : c ≤ 255) : parseP (fmtP a b c) = some (a, b, c) := by
  unfold parseP fmtP
  obtain ⟨e1, e2⟩ := cut_append (decDigits a) (decDigits b ++ 47 :: decDigits c) (digits_noslash a)
  obtain ⟨e3, e4⟩ := cut_append (decDigits b) (decDigits c) (digits_noslash b)
  rw [e1, e2, e3, e4, numP_digits _ (by decide) a ha, numP_digits _ (by decide) b hb, numP_digits _ (by decide) c hc]
theorem fmtP_len (a b c : Nat) (ha : a ≤ 16777215) (hb : b ≤ 4294967295) (hc : c ≤ 255) : (fmtP a b c).length ≤ 32 := by
  have := digits_len a (by omega)
  have := digits_len b (by omega)
  have := digits_len c (by omega)
  simp [fmtP]; omega
end Go.Proofs.YtbmajggpfojnkaaDoor
