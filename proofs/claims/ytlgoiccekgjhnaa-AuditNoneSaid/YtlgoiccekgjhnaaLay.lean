/-
  Layouts of records and arrays as plain functions: widths, places, sizes, errors. No conditions.
-/
import Derived.Test.YtlgoiccekgjhnaaPair
namespace Go.Proofs.Ytlgoiccekgjhnaa

/-- Width and alignment of a field. -/
def wdt (f : Int × Int) : Int := if f.1 = 1 then 1 else if f.1 = 2 then 2 else if f.1 = 3 then 4 else if f.1 = 4 then 8 else if f.1 = 5 then 8 else f.2
def aln (f : Int × Int) : Int := if f.1 = 1 then 1 else if f.1 = 2 then 2 else if f.1 = 3 then 4 else if f.1 = 4 then 8 else if f.1 = 5 then 8 else 1
theorem aln_is (f : Int × Int) : aln f = 1 ∨ aln f = 2 ∨ aln f = 4 ∨ aln f = 8 := by
  unfold aln
  split
  · simp
  · split
    · simp
    · split
      · simp
      · split
        · simp
        · split <;> simp
/-- The least multiple of k that is not below n. -/
def upk (n k : Int) : Int := (n + k - 1) / k * k
theorem upk_is {n k : Int} (hk : 0 < k) : n ≤ upk n k ∧ upk n k < n + k ∧ upk n k % k = 0 := by
  unfold upk
  have h1 := Int.mul_ediv_add_emod (n + k - 1) k
  have h2 := Int.emod_nonneg (n + k - 1) (by omega : k ≠ 0)
  have h3 := Int.emod_lt_of_pos (n + k - 1) hk
  rw [Int.mul_comm] at h1
  refine ⟨by omega, by omega, Int.mul_emod_left _ _⟩
/-- The error of a field. -/
def errF (f : Int × Int) : Int := if f.1 < 1 ∨ 6 < f.1 then 8 else if (f.1 = 6 ∧ f.2 < 1) ∨ (f.1 ≠ 6 ∧ f.2 ≠ 0) then 3 else if 65536 < f.2 then 4 else 0
theorem errF_0 {f : Int × Int} (h : errF f = 0) : 1 ≤ f.1 ∧ f.1 ≤ 6 ∧ (f.1 = 6 → 1 ≤ f.2) ∧ (f.1 ≠ 6 → f.2 = 0) ∧ f.2 ≤ 65536 := by
  unfold errF at h
  split at h
  · omega
  · split at h
    · omega
    · split at h <;> omega
theorem wdt_bd {f : Int × Int} (h : errF f = 0) : 1 ≤ wdt f ∧ wdt f ≤ 65536 := by
  obtain ⟨h1, h2, h3, h4, h5⟩ := errF_0 h
  unfold wdt
  split
  · omega
  · split
    · omega
    · split
      · omega
      · split
        · omega
        · split <;> omega
/-- The error of the first field that has one. -/
def fErr : List (Int × Int) → Int
  | [] => 0
  | f :: l => if errF f = 0 then fErr l else errF f
theorem fErr_0 : ∀ {l : List (Int × Int)}, fErr l = 0 → ∀ f ∈ l, errF f = 0
  | [], _, _, h => by cases h
  | g :: l, h, f, hf => by
    unfold fErr at h
    by_cases hg : errF g = 0
    · rw [if_pos hg] at h
      rcases List.mem_cons.1 hf with rfl | hf
      · exact hg
      · exact fErr_0 h f hf
    · rw [if_neg hg] at h; exact absurd h hg
theorem fErr_app : ∀ {l m : List (Int × Int)}, fErr (l ++ m) = if fErr l = 0 then fErr m else fErr l
  | [], m => by simp [fErr]
  | f :: l, m => by
    simp only [List.cons_append, fErr]
    by_cases hf : errF f = 0
    · simp only [hf, if_true]; exact fErr_app
    · simp only [hf, if_false]
theorem fErr_at {l : List (Int × Int)} {i : Nat} {f : Int × Int} (h : fErr (l.take i) = 0) (hf : l[i]? = some f) (he : errF f ≠ 0) : fErr l = errF f := by
  have hi : i < l.length := (List.getElem?_eq_some_iff.1 hf).1
  rw [← List.take_append_drop i l, fErr_app, if_pos h, List.drop_eq_getElem_cons hi, show l[i] = f from (List.getElem?_eq_some_iff.1 hf).2]
  unfold fErr
  rw [if_neg he]
theorem fErr_next {l : List (Int × Int)} {i : Nat} {f : Int × Int} (h : fErr (l.take i) = 0) (hf : l[i]? = some f) (he : errF f = 0) : fErr (l.take (i + 1)) = 0 := by
  rw [List.take_add_one, hf, fErr_app, if_pos h]
  simp [fErr, he]
/-- Where the fields end, from a place on; the greatest alignment. -/
def fin_ : List (Int × Int) → Int → Int
  | [], a => a
  | f :: l, a => fin_ l (upk a (aln f) + wdt f)
def mst : List (Int × Int) → Int → Int
  | [], m => m
  | f :: l, m => mst l (max m (aln f))
/-- The places of the fields, from a place on: offset, width, kind. -/
def plc : List (Int × Int) → Int → List (Int × Int × Int)
  | [], _ => []
  | f :: l, a => (upk a (aln f), wdt f, f.1) :: plc l (upk a (aln f) + wdt f)
theorem fin_app : ∀ {l m : List (Int × Int)} {a : Int}, fin_ (l ++ m) a = fin_ m (fin_ l a)
  | [], _, _ => rfl
  | _ :: l, m, _ => by simp only [List.cons_append, fin_]; exact fin_app
theorem mst_app : ∀ {l m : List (Int × Int)} {a : Int}, mst (l ++ m) a = mst m (mst l a)
  | [], _, _ => rfl
  | _ :: l, m, _ => by simp only [List.cons_append, mst]; exact mst_app
theorem plc_app : ∀ {l m : List (Int × Int)} {a : Int}, plc (l ++ m) a = plc l a ++ plc m (fin_ l a)
  | [], _, _ => rfl
  | _ :: l, m, _ => by simp only [List.cons_append, plc, fin_]; rw [plc_app]
theorem fin_next {l : List (Int × Int)} {i : Nat} {f : Int × Int} (hf : l[i]? = some f) (a : Int) : fin_ (l.take (i + 1)) a = upk (fin_ (l.take i) a) (aln f) + wdt f := by
  rw [List.take_add_one, hf, fin_app]; rfl
theorem mst_next {l : List (Int × Int)} {i : Nat} {f : Int × Int} (hf : l[i]? = some f) (a : Int) : mst (l.take (i + 1)) a = max (mst (l.take i) a) (aln f) := by
  rw [List.take_add_one, hf, mst_app]; rfl
theorem plc_next {l : List (Int × Int)} {i : Nat} {f : Int × Int} (hf : l[i]? = some f) (a : Int) : plc (l.take (i + 1)) a = plc (l.take i) a ++ [(upk (fin_ (l.take i) a) (aln f), wdt f, f.1)] := by
  rw [List.take_add_one, hf, plc_app]; rfl
theorem plc_len : ∀ {l : List (Int × Int)} {a : Int}, (plc l a).length = l.length
  | [], _ => rfl
  | _ :: l, _ => by simp only [plc, List.length_cons]; rw [plc_len]
theorem plc_at {l : List (Int × Int)} {i : Nat} {f : Int × Int} (hf : l[i]? = some f) (a : Int) : (plc l a)[i]? = some (upk (fin_ (l.take i) a) (aln f), wdt f, f.1) := by
  have hi : i < l.length := (List.getElem?_eq_some_iff.1 hf).1
  have h : plc l a = plc (l.take (i + 1)) a ++ plc (l.drop (i + 1)) (fin_ (l.take (i + 1)) a) := by rw [← plc_app, List.take_append_drop]
  rw [h, plc_next hf, List.append_assoc, List.getElem?_append_right (by rw [plc_len, List.length_take]; omega), plc_len, List.length_take, Nat.min_eq_left (by omega), Nat.sub_self]
  rfl
theorem mst_is : ∀ {l : List (Int × Int)} {a : Int}, (a = 1 ∨ a = 2 ∨ a = 4 ∨ a = 8) → (mst l a = 1 ∨ mst l a = 2 ∨ mst l a = 4 ∨ mst l a = 8)
  | [], _, h => h
  | f :: l, a, h => mst_is (l := l) (a := max a (aln f)) (by have := aln_is f; omega)
theorem fin_bd : ∀ {l : List (Int × Int)} {a : Int}, (∀ f ∈ l, errF f = 0) → 0 ≤ a → a ≤ fin_ l a ∧ fin_ l a ≤ a + 65544 * l.length
  | [], a, _, h => by simp [fin_]
  | f :: l, a, h, ha => by
    have h1 := wdt_bd (h f (by simp))
    have h2 := upk_is (n := a) (k := aln f) (by have := aln_is f; omega)
    have h3 := aln_is f
    have h4 := fin_bd (l := l) (a := upk a (aln f) + wdt f) (fun g hg => h g (by simp [hg])) (by omega)
    simp only [fin_, List.length_cons]
    omega
/-- The error of a type, what it has of places, its size. -/
def chk (n : Int) (l : List (Int × Int)) : Int :=
  if n < 0 then 3 else if 65536 < n then 4 else if (n = 0 ∧ l.length = 0) ∨ (0 < n ∧ l.length ≠ 1) then 3 else if 32 < l.length then 4 else if fErr l ≠ 0 then fErr l
  else if 0 < n then (if 65536 < wdt (l.getD 0 (0, 0)) * n then 4 else 0) else if 65536 < upk (fin_ l 0) (mst l 1) then 4 else 0
theorem chk_0 {n : Int} {l : List (Int × Int)} (h : chk n l = 0) : 0 ≤ n ∧ n ≤ 65536 ∧ l.length ≤ 32 ∧ (∀ f ∈ l, errF f = 0) ∧
    ((0 < n ∧ l.length = 1 ∧ wdt (l.getD 0 (0, 0)) * n ≤ 65536) ∨ (n = 0 ∧ 0 < l.length ∧ upk (fin_ l 0) (mst l 1) ≤ 65536)) := by
  unfold chk at h
  by_cases h1 : n < 0
  · rw [if_pos h1] at h; omega
  rw [if_neg h1] at h
  by_cases h2 : 65536 < n
  · rw [if_pos h2] at h; omega
  rw [if_neg h2] at h
  by_cases h3 : (n = 0 ∧ l.length = 0) ∨ (0 < n ∧ l.length ≠ 1)
  · rw [if_pos h3] at h; omega
  rw [if_neg h3] at h
  by_cases h4 : 32 < l.length
  · rw [if_pos h4] at h; omega
  rw [if_neg h4] at h
  by_cases h5 : fErr l = 0
  · rw [if_neg (by omega)] at h
    refine ⟨by omega, by omega, by omega, fErr_0 h5, ?_⟩
    by_cases h6 : 0 < n
    · rw [if_pos h6] at h
      split at h
      · omega
      · exact .inl ⟨h6, by omega, by omega⟩
    · rw [if_neg h6] at h
      split at h
      · omega
      · exact .inr ⟨by omega, by omega, by omega⟩
  · rw [if_pos h5] at h; exact absurd h h5
def cnt (n : Int) (l : List (Int × Int)) : Int := if chk n l = 0 then if 0 < n then n else l.length else 0
def szt (n : Int) (l : List (Int × Int)) : Int := if chk n l = 0 then if 0 < n then wdt (l.getD 0 (0, 0)) * n else upk (fin_ l 0) (mst l 1) else 0
/-- What Place says: the place and the error. -/
def plE (n : Int) (l : List (Int × Int)) (i : Int) : Int := if chk n l = 0 then if i < 0 ∨ cnt n l ≤ i then 6 else 0 else chk n l
def plV (n : Int) (l : List (Int × Int)) (i : Int) : Int × Int × Int := if plE n l i = 0 then if 0 < n then (i * wdt (l.getD 0 (0, 0)), wdt (l.getD 0 (0, 0)), (l.getD 0 (0, 0)).1) else (plc l 0).getD i.toNat (0, 0, 0) else (0, 0, 0)
end Go.Proofs.Ytlgoiccekgjhnaa
