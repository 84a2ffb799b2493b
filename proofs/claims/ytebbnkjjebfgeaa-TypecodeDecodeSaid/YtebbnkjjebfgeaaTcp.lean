/-
  The encoding of types as plain functions: what is written, what reading gives, and that the one undoes the other. Plain mathematics; no conditions beyond those that each lemma states.
-/
import Derived.Test.YtebbnkjjebfgeaaLay
import Derived.Test.YtebbnkjjebfgeaaLeb
import Derived.Test.YtebbnkjjebfgeaaBts
namespace Go.Proofs.Ytebbnkjjebfgeaa

/-- The encoding of fields and of a type. -/
def encF : List (Int × Int) → List Int
  | [] => []
  | f :: l => enc f.1.toNat ++ (enc f.2.toNat ++ encF l)
def encT (n : Int) (l : List (Int × Int)) : List Int := enc n.toNat ++ (enc l.length ++ encF l)
/-- What Encode returns. -/
def encO (n : Int) (l : List (Int × Int)) : List Int := if chk n l = 0 then encT n l else []
theorem encF_app : ∀ {l m : List (Int × Int)}, encF (l ++ m) = encF l ++ encF m
  | [], _ => rfl
  | f :: l, m => by simp only [List.cons_append, encF]; rw [encF_app]; simp
theorem encF_next {l : List (Int × Int)} {i : Nat} {f : Int × Int} (hf : l[i]? = some f) : encF (l.take (i + 1)) = encF (l.take i) ++ (enc f.1.toNat ++ enc f.2.toNat) := by
  rw [List.take_add_one, hf, encF_app]
  simp [encF]
/-- All numbers of the fields are small. -/
def Low (l : List (Int × Int)) : Prop := ∀ f ∈ l, 0 ≤ f.1 ∧ f.1 ≤ 65536 ∧ 0 ≤ f.2 ∧ f.2 ≤ 65536
theorem Low.of {l : List (Int × Int)} (h : ∀ f ∈ l, errF f = 0) : Low l := fun f hf => by
  obtain ⟨h1, h2, h3, h4, h5⟩ := errF_0 (h f hf)
  refine ⟨by omega, by omega, ?_, h5⟩
  by_cases h6 : f.1 = 6
  · have := h3 h6; omega
  · have := h4 h6; omega
theorem enc_len3 {n : Nat} (h : n ≤ 65536) : (enc n).length ≤ 3 := enc_len 2 n (by have : (128 : Nat) ^ (2 + 1) = 2097152 := by decide
                                                                                   omega)
theorem encF_len : ∀ {l : List (Int × Int)}, Low l → (encF l).length ≤ 6 * l.length
  | [], _ => Nat.le_refl _
  | f :: l, h => by
    have h1 := h f (by simp)
    have h2 := enc_len3 (n := f.1.toNat) (by omega)
    have h3 := enc_len3 (n := f.2.toNat) (by omega)
    have h4 := encF_len (l := l) (fun g hg => h g (by simp [hg]))
    simp only [encF, List.length_append, List.length_cons]
    omega
theorem encT_len {n : Int} {l : List (Int × Int)} (hn : n ≤ 65536) (hl : l.length ≤ 65536) (h : Low l) : 2 ≤ (encT n l).length ∧ (encT n l).length ≤ 6 + 6 * l.length := by
  have h2 := enc_len3 (n := n.toNat) (by omega)
  have h3 := enc_len3 (n := l.length) hl
  have h4 := encF_len h
  have h5 := enc_pos n.toNat
  have h6 := enc_pos l.length
  simp only [encT, List.length_append]
  omega
theorem encF_small : ∀ {l : List (Int × Int)}, ∀ x ∈ encF l, 0 ≤ x ∧ x ≤ 255
  | [], x, h => by simp [encF] at h
  | f :: l, x, h => by
    simp only [encF, List.mem_append] at h
    rcases h with h | h | h
    · exact enc_bytes _ x h
    · exact enc_bytes _ x h
    · exact encF_small x h
theorem encT_small {n : Int} {l : List (Int × Int)} : Small (encT n l) := fun x h => by
  simp only [encT, List.mem_append] at h
  rcases h with h | h | h
  · exact enc_bytes _ x h
  · exact enc_bytes _ x h
  · exact encF_small x h
theorem encO_small {n : Int} {l : List (Int × Int)} : Small (encO n l) := by
  unfold encO
  split
  · exact encT_small
  · intro x h; cases h

/-- Reading a number at a place: the error, the number, the place behind it. -/
def rnE (b : List Int) (p : Nat) : Int := if rdE (b.drop p) = 0 then (if 65536 < rdX (b.drop p) then 4 else 0) else rdE (b.drop p)
def rnX (b : List Int) (p : Nat) : Int := rdX (b.drop p)
def rnA (b : List Int) (p : Nat) : Nat := p + (rdK (b.drop p)).toNat
theorem Small.drop {l : List Int} (h : Small l) (p : Nat) : Small (l.drop p) := fun x hx => h x (List.mem_of_mem_drop hx)
theorem Small.take {l : List Int} (h : Small l) (p : Nat) : Small (l.take p) := fun x hx => h x (List.mem_of_mem_take hx)
theorem rn_0 {b : List Int} {p : Nat} (h : rnE b p = 0) : rdE (b.drop p) = 0 ∧ rnX b p ≤ 65536 := by
  unfold rnE at h
  by_cases h1 : rdE (b.drop p) = 0
  · rw [if_pos h1] at h
    refine ⟨h1, ?_⟩
    unfold rnX
    split at h <;> omega
  · rw [if_neg h1] at h; exact absurd h h1
theorem rn_bd {b : List Int} (hs : Small b) {p : Nat} (hp : p ≤ b.length) (h : rnE b p = 0) : 0 ≤ rnX b p ∧ rnX b p ≤ 65536 ∧ p ≤ rnA b p ∧ rnA b p ≤ b.length ∧ rnA b p ≤ p + 10 := by
  obtain ⟨h1, h2⟩ := rn_0 h
  obtain ⟨a, b', c, d, e⟩ := rd_bd (hs.drop p)
  rw [List.length_drop] at d
  unfold rnA rnX
  unfold rnX at h2
  omega
/-- Two numbers. -/
def rpE (b : List Int) (p : Nat) : Int := if rnE b p = 0 then rnE b (rnA b p) else rnE b p
def rpX (b : List Int) (p : Nat) : Int := rnX b p
def rpY (b : List Int) (p : Nat) : Int := rnX b (rnA b p)
def rpA (b : List Int) (p : Nat) : Nat := rnA b (rnA b p)
theorem rp_0 {b : List Int} {p : Nat} (h : rpE b p = 0) : rnE b p = 0 ∧ rnE b (rnA b p) = 0 := by
  unfold rpE at h
  by_cases h1 : rnE b p = 0
  · rw [if_pos h1] at h; exact ⟨h1, h⟩
  · rw [if_neg h1] at h; exact absurd h h1
theorem rp_bd {b : List Int} (hs : Small b) {p : Nat} (hp : p ≤ b.length) (h : rpE b p = 0) :
    0 ≤ rpX b p ∧ rpX b p ≤ 65536 ∧ 0 ≤ rpY b p ∧ rpY b p ≤ 65536 ∧ p ≤ rpA b p ∧ rpA b p ≤ b.length := by
  obtain ⟨h1, h2⟩ := rp_0 h
  have a := rn_bd hs hp h1
  have b := rn_bd hs (by omega : rnA b p ≤ b.length) h2
  unfold rpX rpY rpA
  omega
/-- The fields. -/
def rfE (b : List Int) : Nat → Nat → Int
  | 0, _ => 0
  | k + 1, p => if rpE b p = 0 then rfE b k (rpA b p) else rpE b p
def rfL (b : List Int) : Nat → Nat → List (Int × Int)
  | 0, _ => []
  | k + 1, p => (rpX b p, rpY b p) :: rfL b k (rpA b p)
def rfA (b : List Int) : Nat → Nat → Nat
  | 0, p => p
  | k + 1, p => rfA b k (rpA b p)
theorem rfL_len {b : List Int} : ∀ {k p : Nat}, (rfL b k p).length = k
  | 0, _ => rfl
  | k + 1, _ => by simp only [rfL, List.length_cons]; rw [rfL_len]
theorem rf_add {b : List Int} : ∀ {j k p : Nat}, rfE b (j + k) p = (if rfE b j p = 0 then rfE b k (rfA b j p) else rfE b j p) ∧ rfL b (j + k) p = rfL b j p ++ rfL b k (rfA b j p) ∧ rfA b (j + k) p = rfA b k (rfA b j p)
  | 0, k, p => by simp [rfE, rfL, rfA]
  | j + 1, k, p => by
    obtain ⟨h1, h2, h3⟩ := rf_add (b := b) (j := j) (k := k) (p := rpA b p)
    have e : j + 1 + k = (j + k) + 1 := by omega
    rw [e]
    simp only [rfE, rfL, rfA]
    refine ⟨?_, by rw [h2]; rfl, h3⟩
    by_cases h : rpE b p = 0
    · simp only [h, if_true, h1]
    · simp [h]
theorem rf_next {b : List Int} {j p : Nat} (h : rfE b j p = 0) (h' : rpE b (rfA b j p) = 0) :
    rfE b (j + 1) p = 0 ∧ rfL b (j + 1) p = rfL b j p ++ [(rpX b (rfA b j p), rpY b (rfA b j p))] ∧ rfA b (j + 1) p = rpA b (rfA b j p) := by
  obtain ⟨h1, h2, h3⟩ := rf_add (b := b) (j := j) (k := 1) (p := p)
  refine ⟨?_, h2, h3⟩
  rw [h1, if_pos h]
  simp [rfE, h']
theorem rf_bad {b : List Int} {j k p : Nat} (h : rfE b j p = 0) (hj : j < k) (h' : rpE b (rfA b j p) ≠ 0) : rfE b k p = rpE b (rfA b j p) := by
  obtain ⟨i, rfl⟩ : ∃ i, k = j + (i + 1) := ⟨k - j - 1, by omega⟩
  obtain ⟨h1, _, _⟩ := rf_add (b := b) (j := j) (k := i + 1) (p := p)
  rw [h1, if_pos h]
  simp [rfE, h']
theorem rf_bd {b : List Int} (hs : Small b) : ∀ {k p : Nat}, p ≤ b.length → rfE b k p = 0 → p ≤ rfA b k p ∧ rfA b k p ≤ b.length ∧ Low (rfL b k p)
  | 0, p, hp, _ => ⟨Nat.le_refl _, hp, fun f hf => by cases hf⟩
  | k + 1, p, hp, h => by
    unfold rfE at h
    by_cases h1 : rpE b p = 0
    · rw [if_pos h1] at h
      have h2 := rp_bd hs hp h1
      have h3 := rf_bd hs (k := k) (p := rpA b p) (by omega) h
      refine ⟨by simp only [rfA]; omega, by simp only [rfA]; omega, fun f hf => ?_⟩
      simp only [rfL, List.mem_cons] at hf
      rcases hf with rfl | hf
      · simp only; omega
      · exact h3.2.2 f hf
    · rw [if_neg h1] at h; exact absurd h h1
/-- A type: the error of reading; what Decode returns. -/
def dcR (b : List Int) : Int := if rpE b 0 = 0 then (if 32 < rpY b 0 then 4 else rfE b (rpY b 0).toNat (rpA b 0)) else rpE b 0
def dcF (b : List Int) : List (Int × Int) := rfL b (rpY b 0).toNat (rpA b 0)
def dcE (b : List Int) : Int := if dcR b = 0 then chk (rpX b 0) (dcF b) else dcR b
def dcN (b : List Int) : Int := if dcE b = 0 then rpX b 0 else 0
def dcL (b : List Int) : List (Int × Int) := if dcE b = 0 then dcF b else []
def dcK (b : List Int) : Int := if dcE b = 0 then rfA b (rpY b 0).toNat (rpA b 0) else 0
theorem dcR_0 {b : List Int} (h : dcR b = 0) : rpE b 0 = 0 ∧ rpY b 0 ≤ 32 ∧ rfE b (rpY b 0).toNat (rpA b 0) = 0 := by
  unfold dcR at h
  by_cases h1 : rpE b 0 = 0
  · rw [if_pos h1] at h
    by_cases h2 : 32 < rpY b 0
    · rw [if_pos h2] at h; omega
    · rw [if_neg h2] at h
      exact ⟨h1, by omega, h⟩
  · rw [if_neg h1] at h; exact absurd h h1
theorem dc_err {b : List Int} {e : Int} (h : dcE b = e) (he : e ≠ 0) : dcN b = 0 ∧ dcL b = [] ∧ dcK b = 0 := by
  unfold dcN dcL dcK
  rw [if_neg (by omega), if_neg (by omega), if_neg (by omega)]
  exact ⟨rfl, rfl, rfl⟩
theorem dc_0 {b : List Int} (h : dcE b = 0) : dcR b = 0 ∧ chk (rpX b 0) (dcF b) = 0 ∧ dcN b = rpX b 0 ∧ dcL b = dcF b ∧ dcK b = rfA b (rpY b 0).toNat (rpA b 0) := by
  have h0 := h
  unfold dcN dcL dcK
  rw [if_pos h, if_pos h, if_pos h]
  unfold dcE at h
  by_cases h1 : dcR b = 0
  · rw [if_pos h1] at h
    exact ⟨h1, h, rfl, rfl, rfl⟩
  · rw [if_neg h1] at h; exact absurd h h1
theorem dcF_len {b : List Int} : (dcF b).length = (rpY b 0).toNat := rfL_len

/-! Reading what was written. -/
theorem drop_step {b p q : List Int} {k j : Nat} (h : b.drop k = p ++ q) (hj : j = k + p.length) : b.drop j = q := by
  subst hj
  rw [← List.drop_drop, h, List.drop_left]
theorem rn_at {b more : List Int} {p x : Nat} (h : b.drop p = enc x ++ more) (hx : x ≤ 65536) : rnE b p = 0 ∧ rnX b p = x ∧ rnA b p = p + (enc x).length ∧ b.drop (rnA b p) = more := by
  obtain ⟨h1, h2, h3⟩ := rd_enc (n := x) (by omega) more
  rw [← h] at h1 h2 h3
  have ha : rnA b p = p + (enc x).length := by unfold rnA; rw [h2]; simp
  refine ⟨?_, h1, ha, drop_step h ha⟩
  unfold rnE
  rw [if_pos h3, h1, if_neg (by omega)]
theorem rp_at {b more : List Int} {p x y : Nat} (h : b.drop p = enc x ++ (enc y ++ more)) (hx : x ≤ 65536) (hy : y ≤ 65536) :
    rpE b p = 0 ∧ rpX b p = x ∧ rpY b p = y ∧ rpA b p = p + (enc x).length + (enc y).length ∧ b.drop (rpA b p) = more := by
  obtain ⟨a1, a2, a3, a4⟩ := rn_at h hx
  obtain ⟨b1, b2, b3, b4⟩ := rn_at a4 hy
  refine ⟨?_, a2, b2, ?_, b4⟩
  · unfold rpE; rw [if_pos a1, b1]
  · unfold rpA; rw [b3, a3]
theorem rf_at {b : List Int} : ∀ {l : List (Int × Int)} {more : List Int} {p : Nat}, Low l → b.drop p = encF l ++ more → rfE b l.length p = 0 ∧ rfL b l.length p = l ∧ rfA b l.length p = p + (encF l).length ∧ b.drop (rfA b l.length p) = more
  | [], more, p, _, h => ⟨rfl, rfl, rfl, h⟩
  | f :: l, more, p, hl, h => by
    have h1 := hl f (by simp)
    simp only [encF, List.append_assoc] at h
    obtain ⟨a1, a2, a3, a4, a5⟩ := rp_at h (by omega) (by omega)
    obtain ⟨b1, b2, b3, b4⟩ := rf_at (l := l) (more := more) (p := rpA b p) (fun g hg => hl g (by simp [hg])) a5
    simp only [List.length_cons, rfE, rfL, rfA]
    refine ⟨by rw [if_pos a1, b1], ?_, ?_, b4⟩
    · rw [b2, a2, a3, Int.toNat_of_nonneg h1.1, Int.toNat_of_nonneg h1.2.2.1]
    · rw [b3, a4]
      simp only [encF, List.length_append]
      omega
theorem dc_back {n : Int} {l : List (Int × Int)} (h : chk n l = 0) (more : List Int) : dcE (encT n l ++ more) = 0 ∧ dcN (encT n l ++ more) = n ∧ dcL (encT n l ++ more) = l ∧ dcK (encT n l ++ more) = (encT n l).length := by
  obtain ⟨n0, n1, hl, hok, _⟩ := chk_0 h
  have hlow := Low.of hok
  have e : (encT n l ++ more).drop 0 = enc n.toNat ++ (enc l.length ++ (encF l ++ more)) := by simp [encT]
  generalize hb : encT n l ++ more = b at e ⊢
  obtain ⟨a1, a2, a3, a4, a5⟩ := rp_at e (by omega) (by omega)
  obtain ⟨b1, b2, b3, b4⟩ := rf_at hlow a5
  have ey : (rpY b 0).toNat = l.length := by rw [a3]; simp
  have hF : dcF b = l := by unfold dcF; rw [ey, b2]
  have hR : dcR b = 0 := by unfold dcR; rw [if_pos a1, if_neg (by omega), ey, b1]
  have hX : rpX b 0 = n := by rw [a2]; omega
  have hE : dcE b = 0 := by unfold dcE; rw [if_pos hR, hF, hX, h]
  obtain ⟨_, _, c3, c4, c5⟩ := dc_0 hE
  refine ⟨hE, by rw [c3, hX], by rw [c4, hF], ?_⟩
  rw [c5, ey, b3, a4]
  simp only [encT, List.length_append]
  omega
/-! Reading a beginning of what was written. -/
theorem rn_cut {b rest : List Int} {p j x : Nat} (h : b.drop p = (enc x ++ rest).take j) (hx : x ≤ 65536) :
    (j < (enc x).length ∧ rnE b p = 2) ∨ ((enc x).length ≤ j ∧ rnE b p = 0 ∧ rnX b p = x ∧ b.drop (rnA b p) = rest.take (j - (enc x).length)) := by
  by_cases hj : j < (enc x).length
  · refine .inl ⟨hj, ?_⟩
    rw [List.take_append_of_le_length (by omega)] at h
    obtain ⟨_, _, h3⟩ := rd_cut (n := x) (by omega) hj
    rw [← h] at h3
    unfold rnE
    rw [if_neg (by omega), h3]
  · refine .inr ⟨by omega, ?_⟩
    rw [List.take_append, List.take_of_length_le (by omega)] at h
    obtain ⟨a1, a2, a3, a4⟩ := rn_at h hx
    exact ⟨a1, a2, a4⟩
theorem rp_cut {b rest : List Int} {p j x y : Nat} (h : b.drop p = (enc x ++ (enc y ++ rest)).take j) (hx : x ≤ 65536) (hy : y ≤ 65536) :
    (j < (enc x).length + (enc y).length ∧ rpE b p = 2) ∨ ((enc x).length + (enc y).length ≤ j ∧ rpE b p = 0 ∧ rpX b p = x ∧ rpY b p = y ∧ b.drop (rpA b p) = rest.take (j - ((enc x).length + (enc y).length))) := by
  rcases rn_cut h hx with ⟨h1, h2⟩ | ⟨h1, h2, h3, h4⟩
  · exact .inl ⟨by omega, by unfold rpE; rw [if_neg (by omega), h2]⟩
  · rcases rn_cut h4 hy with ⟨k1, k2⟩ | ⟨k1, k2, k3, k4⟩
    · exact .inl ⟨by omega, by unfold rpE; rw [if_pos h2, k2]⟩
    · refine .inr ⟨by omega, by unfold rpE; rw [if_pos h2, k2], h3, k3, ?_⟩
      unfold rpA
      rw [k4, Nat.sub_sub]
theorem rf_cut {b : List Int} : ∀ {l : List (Int × Int)} {p j : Nat}, Low l → b.drop p = (encF l).take j → j < (encF l).length → rfE b l.length p = 2
  | [], p, j, _, _, hj => by simp [encF] at hj
  | f :: l, p, j, hl, h, hj => by
    have h1 := hl f (by simp)
    simp only [encF, List.length_append] at h hj
    simp only [List.length_cons, rfE]
    rcases rp_cut h (by omega) (by omega) with ⟨_, h2⟩ | ⟨k1, k2, _, _, k5⟩
    · rw [if_neg (by omega), h2]
    · rw [if_pos k2]
      exact rf_cut (fun g hg => hl g (by simp [hg])) k5 (by omega)
theorem dc_cut {n : Int} {l : List (Int × Int)} (h : chk n l = 0) {k : Nat} (hk : k < (encT n l).length) : dcE ((encT n l).take k) = 2 := by
  obtain ⟨n0, n1, hl, hok, _⟩ := chk_0 h
  have hlow := Low.of hok
  have e : ((encT n l).take k).drop 0 = (enc n.toNat ++ (enc l.length ++ encF l)).take k := rfl
  simp only [encT, List.length_append] at hk
  generalize hb : (encT n l).take k = b at e ⊢
  have hR : dcR b = 2 := by
    unfold dcR
    rcases rp_cut e (by omega) (by omega) with ⟨_, h2⟩ | ⟨k1, k2, k3, k4, k5⟩
    · rw [if_neg (by omega), h2]
    · rw [if_pos k2, k4, if_neg (by omega), Int.toNat_natCast]
      exact rf_cut hlow k5 (by omega)
  unfold dcE
  rw [if_neg (by omega), hR]
/-! What is read has its bytes as its encoding. -/
theorem enc_val_top : ∀ (l : List Int), Small l → top l < l.length → (0 < top l → l.getD (top l) 0 ≠ 0) →
    enc (val (l.take (top l + 1))).toNat = l.take (top l + 1) ∧ (l.getD (top l) 0 ≠ 0 → 1 ≤ val (l.take (top l + 1)))
  | [], _, h, _ => by simp at h
  | c :: r, hs, h, hz => by
    have hc := hs c (by simp)
    by_cases h1 : 128 ≤ c
    · have ht : top (c :: r) = top r + 1 := by simp [top, h1]
      rw [ht] at h hz ⊢
      have hg : (c :: r).getD (top r + 1) 0 = r.getD (top r) 0 := by simp [List.getD]
      rw [hg] at hz ⊢
      have hr := hz (by omega)
      obtain ⟨i1, i2⟩ := enc_val_top r (fun x hx => hs x (by simp [hx])) (by simpa using h) (fun _ => hr)
      have hv := i2 hr
      rw [List.take_succ_cons, val]
      have e1 : (c % 128 + 128 * val (r.take (top r + 1))).toNat / 128 = (val (r.take (top r + 1))).toNat := by omega
      have e2 : (((c % 128 + 128 * val (r.take (top r + 1))).toNat % 128 + 128 : Nat) : Int) = c := by omega
      refine ⟨?_, fun _ => by omega⟩
      rw [enc_big (by omega), e1, e2, i1]
    · have ht : top (c :: r) = 0 := by simp [top, h1]
      rw [ht]
      have e : (c :: r).take (0 + 1) = [c] := by simp
      rw [e]
      have e1 : val [c] = c := by simp only [val]; omega
      rw [e1, enc_small (by omega)]
      refine ⟨?_, fun hne => ?_⟩
      · rw [Int.toNat_of_nonneg hc.1]
      · have : (c :: r).getD 0 0 = c := rfl
        rw [this] at hne
        omega
theorem rd_back {l : List Int} (hs : Small l) (h : rdE l = 0) : l.take (rdK l).toNat = enc (rdX l).toNat := by
  have hk : (rdK l).toNat = top l + 1 := by unfold rdK; rw [if_pos h]; omega
  have hx : rdX l = val (l.take (top l + 1)) := by unfold rdX; rw [if_pos h]
  have ht := top_le l
  rw [hk, hx]
  unfold rdE at h
  split at h
  · omega
  · split at h
    · omega
    · split at h
      · rename_i h1 h2 h3
        unfold endB at h3
        rw [decide_eq_true_iff] at h3
        exact (enc_val_top l hs (by omega) (fun h0 => by omega)).1.symm
      · omega
theorem rn_back {b : List Int} (hs : Small b) {p : Nat} (h : rnE b p = 0) : b.take (rnA b p) = b.take p ++ enc (rnX b p).toNat := by
  have h1 := rd_back (hs.drop p) (rn_0 h).1
  unfold rnA rnX
  rw [List.take_add, h1]
theorem rp_back {b : List Int} (hs : Small b) {p : Nat} (hp : p ≤ b.length) (h : rpE b p = 0) : b.take (rpA b p) = b.take p ++ (enc (rpX b p).toNat ++ enc (rpY b p).toNat) := by
  obtain ⟨h1, h2⟩ := rp_0 h
  have a := rn_bd hs hp h1
  have e1 := rn_back hs h1
  have e2 := rn_back hs (p := rnA b p) h2
  unfold rpA rpX rpY
  rw [e2, e1, List.append_assoc]
theorem rf_back {b : List Int} (hs : Small b) : ∀ {k p : Nat}, p ≤ b.length → rfE b k p = 0 → b.take (rfA b k p) = b.take p ++ encF (rfL b k p)
  | 0, p, _, _ => by simp [rfA, rfL, encF]
  | k + 1, p, hp, h => by
    unfold rfE at h
    by_cases h1 : rpE b p = 0
    · rw [if_pos h1] at h
      have h2 := rp_bd hs hp h1
      have e1 := rp_back hs hp h1
      have e2 := rf_back hs (k := k) (p := rpA b p) (by omega) h
      simp only [rfA, rfL, encF]
      rw [e2, e1]
      simp
    · rw [if_neg h1] at h; exact absurd h h1
theorem dc_only {b : List Int} (hs : Small b) (h : dcE b = 0) : 0 ≤ dcK b ∧ dcK b ≤ b.length ∧ b.take (dcK b).toNat = encT (dcN b) (dcL b) ∧ chk (dcN b) (dcL b) = 0 := by
  obtain ⟨h1, h2, h3, h4, h5⟩ := dc_0 h
  obtain ⟨r1, r2, r3⟩ := dcR_0 h1
  have a := rp_bd hs (Nat.zero_le _) r1
  have c := rf_bd hs (by omega : rpA b 0 ≤ b.length) r3
  have e1 := rp_back hs (Nat.zero_le _) r1
  have e2 := rf_back hs (by omega : rpA b 0 ≤ b.length) r3
  rw [h5, h4, h3]
  refine ⟨by omega, by omega, ?_, h2⟩
  rw [Int.toNat_natCast, e2, e1]
  unfold encT
  rw [dcF_len]
  unfold dcF
  simp
/-- Bounds of what is read. -/
theorem dc_low {b : List Int} (hs : Small b) (h : dcR b = 0) : 0 ≤ rpX b 0 ∧ rpX b 0 ≤ 65536 ∧ Low (dcF b) ∧ (dcF b).length ≤ 32 := by
  obtain ⟨r1, r2, r3⟩ := dcR_0 h
  have a := rp_bd hs (Nat.zero_le _) r1
  have c := rf_bd hs (by omega : rpA b 0 ≤ b.length) r3
  refine ⟨a.1, a.2.1, c.2.2, ?_⟩
  rw [dcF_len]
  omega
end Go.Proofs.Ytebbnkjjebfgeaa
