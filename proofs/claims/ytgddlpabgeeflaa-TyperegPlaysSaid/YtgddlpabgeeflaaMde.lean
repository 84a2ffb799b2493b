/-
  What the laws' makers make, and where its fields lie: plain facts. No conditions beyond those that each theorem states.
-/
import Derived.Test.YtgddlpabgeeflaaLyd
import Derived.Test.YtgddlpabgeeflaaTyp
namespace Go.Proofs.Ytgddlpabgeeflaa
open Go.ChangeShapes Go.WideShapes Go.RowKit
set_option linter.unusedVariables false

/-- What the maker of types makes. -/
theorem typ_ok (L : List Int) (i : Nat) : (∀ f ∈ (typV L i).2, errF f = 0 ∧ f.2 ≤ 9) ∧ ((0 < (typV L i).1 ∧ (typV L i).1 ≤ 5 ∧ (typV L i).2.length = 1) ∨ ((typV L i).1 = 0 ∧ 0 < (typV L i).2.length ∧ (typV L i).2.length ≤ 4)) := by
  have h3 : 0 ≤ num L (i + 1) % 5 := Int.emod_nonneg _ (by omega)
  have h4 : num L (i + 1) % 5 < 5 := Int.emod_lt_of_pos _ (by omega)
  have h5 : 0 ≤ num L (i + 1) % 4 := Int.emod_nonneg _ (by omega)
  have h6 : num L (i + 1) % 4 < 4 := Int.emod_lt_of_pos _ (by omega)
  unfold typV
  split
  · refine ⟨fun f hf => ?_, .inl ⟨by dsimp only; omega, by dsimp only; omega, rfl⟩⟩
    simp only [List.mem_singleton] at hf
    subst hf
    exact fldV_ok _
  · refine ⟨fun f hf => flds_ok f hf, .inr ⟨rfl, ?_, ?_⟩⟩ <;> (dsimp only; rw [flds_len]; omega)
theorem fErr_all : ∀ {l : List (Int × Int)}, (∀ f ∈ l, errF f = 0) → fErr l = 0
  | [], _ => rfl
  | f :: l, h => by
    unfold fErr
    rw [if_pos (h f (by simp))]
    exact fErr_all (fun g hg => h g (by simp [hg]))
theorem wdt_small {f : Int × Int} (h : errF f = 0 ∧ f.2 ≤ 9) : 1 ≤ wdt f ∧ wdt f ≤ 9 := by
  obtain ⟨h1, h2, h3, h4, h5⟩ := errF_0 h.1
  have h6 := h.2
  unfold wdt
  repeat' split
  all_goals omega
theorem fin_small : ∀ {l : List (Int × Int)} {a : Int}, (∀ f ∈ l, errF f = 0 ∧ f.2 ≤ 9) → 0 ≤ a → a ≤ fin_ l a ∧ fin_ l a ≤ a + 17 * l.length
  | [], a, _, h => by simp [fin_]
  | f :: l, a, h, ha => by
    have h1 := wdt_small (h f (by simp))
    have h2 := upk_is (n := a) (k := aln f) (by have := aln_is f; omega)
    have h3 := aln_is f
    have h4 := fin_small (l := l) (a := upk a (aln f) + wdt f) (fun g hg => h g (by simp [hg])) (by omega)
    simp only [fin_, List.length_cons]
    omega
/-- Where the places before number j end. -/
def endP (n : Int) (l : List (Int × Int)) (j : Nat) : Int := if 0 < n then j * wdt (l.getD 0 (0, 0)) else fin_ (l.take j) 0
theorem made_places {n : Int} {l : List (Int × Int)} (hok : ∀ f ∈ l, errF f = 0 ∧ f.2 ≤ 9) (hnl : (0 < n ∧ n ≤ 5 ∧ l.length = 1) ∨ (n = 0 ∧ 0 < l.length ∧ l.length ≤ 5)) :
    chk n l = 0 ∧ cnt n l = ctc n l.length ∧ szt n l = szc n l ∧ 1 ≤ ctc n l.length ∧ ctc n l.length ≤ 5 ∧ 1 ≤ szt n l ∧ szt n l ≤ 200 ∧ endP n l 0 = 0 ∧ (∀ j : Nat, (j : Int) = ctc n l.length → endP n l j ≤ szt n l ∧ szt n l - endP n l j < 8) ∧
      ∀ j : Nat, (j : Int) < ctc n l.length → ∃ x y z, plE n l j = 0 ∧ plV n l j = (x, y, z) ∧ 0 ≤ endP n l j ∧ endP n l j ≤ x ∧ x - endP n l j < 8 ∧ 1 ≤ y ∧ y ≤ 9 ∧ x + y ≤ szt n l ∧ (z ≠ 6 → x % y = 0) ∧ endP n l (j + 1) = x + y := by
  have hf : fErr l = 0 := fErr_all (fun f h => (hok f h).1)
  rcases hnl with ⟨h0, h1, h2⟩ | ⟨rfl, h1, h2⟩
  · obtain ⟨f, rfl⟩ : ∃ f, l = [f] := by
      cases l with
      | nil => simp at h2
      | cons f l => cases l with
        | nil => exact ⟨f, rfl⟩
        | cons g l => simp at h2
    have hw := wdt_small (hok f (by simp))
    have hs : szc n [f] = wdt f * n := by unfold szc; rw [if_pos h0]; rfl
    have hwn : wdt f * n ≤ 9 * 5 := Int.mul_le_mul hw.2 h1 (by omega) (by omega)
    have hwn0 : wdt f * 1 ≤ wdt f * n := Int.mul_le_mul_of_nonneg_left (by omega) (by omega)
    have hc : chk n [f] = 0 := by
      rw [chk_is, if_pos (by unfold ckc; rw [if_neg (by omega), if_neg (by omega), if_neg (by simp <;> omega), if_neg (by simp)]), if_pos hf, hs, if_neg (by omega)]
    obtain ⟨_, _, e1, e2⟩ := chk_ok hc
    have ec : ctc n [f].length = n := if_pos h0
    have ee : ∀ j, endP n [f] j = j * wdt f := fun j => by unfold endP; rw [if_pos h0]; rfl
    refine ⟨hc, e2, e1, by omega, by omega, by rw [e1, hs]; omega, by rw [e1, hs]; omega, by rw [ee]; simp, fun j hj => ?_, fun j hj => ?_⟩
    · rw [ee, e1, hs, hj, ec, Int.mul_comm]
      omega
    · rw [ec] at hj
      have hpe : plE n [f] j = 0 := by unfold plE; rw [if_pos hc, e2, ec, if_neg (by omega)]
      have hj1 : (j : Int) * wdt f + wdt f = ((j + 1 : Nat) : Int) * wdt f := by rw [Int.natCast_add, Int.add_mul]; simp
      have hj2 : ((j + 1 : Nat) : Int) * wdt f ≤ n * wdt f := Int.mul_le_mul_of_nonneg_right (by omega) (by omega)
      have hj3 : 0 ≤ (j : Int) * wdt f := Int.mul_nonneg (by omega) (by omega)
      refine ⟨j * wdt f, wdt f, f.1, hpe, ?_, ?_, ?_, ?_, hw.1, hw.2, ?_, ?_, ?_⟩
      · unfold plV
        rw [if_pos hpe, if_pos h0]
        rfl
      · rw [ee]; exact hj3
      · rw [ee]; exact Int.le_refl _
      · rw [ee]; omega
      · rw [e1, hs, hj1, Int.mul_comm (wdt f)]; exact hj2
      · intro _; exact Int.mul_emod_left _ _
      · rw [ee, hj1]
  · have hs : szc 0 l = upk (fin_ l 0) (mst l 1) := by unfold szc; rw [if_neg (by omega)]
    have hm := mst_is (l := l) (a := 1) (by omega)
    have hfb := fin_small (l := l) (a := 0) hok (by omega)
    have hup := upk_is (n := fin_ l 0) (k := mst l 1) (by omega)
    have hc : chk 0 l = 0 := by
      rw [chk_is, if_pos (by unfold ckc; rw [if_neg (by omega), if_neg (by omega), if_neg (by omega), if_neg (by omega)]), if_pos hf, hs, if_neg (by omega)]
    obtain ⟨_, _, e1, e2⟩ := chk_ok hc
    have ec : ctc 0 l.length = l.length := if_neg (by omega)
    have ee : ∀ j, endP 0 l j = fin_ (l.take j) 0 := fun j => by unfold endP; rw [if_neg (by omega)]
    have hpos : 1 ≤ fin_ l 0 := by
      obtain ⟨f, l', rfl⟩ : ∃ f l', l = f :: l' := by
        cases l with
        | nil => simp at h1
        | cons f l => exact ⟨f, l, rfl⟩
      have hw := wdt_small (hok f (by simp))
      have hu := upk_is (n := 0) (k := aln f) (by have := aln_is f; omega)
      have := (fin_small (l := l') (a := upk 0 (aln f) + wdt f) (fun g hg => hok g (by simp [hg])) (by omega)).1
      simp only [fin_]
      omega
    refine ⟨hc, e2, e1, by omega, by omega, by rw [e1, hs]; omega, by rw [e1, hs]; omega, by rw [ee]; rfl, fun j hj => ?_, fun j hj => ?_⟩
    · rw [ee, e1, hs, List.take_of_length_le (by omega)]
      omega
    · rw [ec] at hj
      obtain ⟨f, hfj⟩ : ∃ f, l[j]? = some f := ⟨l[j]'(by omega), List.getElem?_eq_getElem (by omega)⟩
      have hfm := hok f (List.mem_of_getElem? hfj)
      have hw := wdt_small hfm
      have hpe : plE 0 l j = 0 := by unfold plE; rw [if_pos hc, e2, ec, if_neg (by omega)]
      have hn := fin_next hfj 0
      have hl0 := fin_small (l := l.take j) (a := 0) (fun g hg => hok g (List.mem_of_mem_take hg)) (by omega)
      have hu := upk_is (n := fin_ (l.take j) 0) (k := aln f) (by have := aln_is f; omega)
      have ha := aln_is f
      have hle : fin_ (l.take (j + 1)) 0 ≤ fin_ l 0 := by
        have e : fin_ l 0 = fin_ (l.drop (j + 1)) (fin_ (l.take (j + 1)) 0) := by rw [← fin_app, List.take_append_drop]
        rw [e]
        exact (fin_small (fun g hg => hok g (List.mem_of_mem_drop hg)) (by omega)).1
      refine ⟨upk (fin_ (l.take j) 0) (aln f), wdt f, f.1, hpe, ?_, ?_, ?_, ?_, hw.1, hw.2, ?_, ?_, ?_⟩
      · unfold plV
        rw [if_pos hpe, if_neg (by omega), Int.toNat_natCast, List.getD_eq_getElem?_getD, plc_at hfj]
        rfl
      · rw [ee]; exact hl0.1
      · rw [ee]; exact hu.1
      · rw [ee]; omega
      · rw [e1, hs]; omega
      · intro h6
        have hwa : wdt f = aln f := by
          obtain ⟨k1, k2, _⟩ := errF_0 hfm.1
          obtain ⟨k, c⟩ := f
          rw [← alg_wdt (c := c) ⟨k1, k2⟩ h6, alg_aln (c := c) ⟨k1, k2⟩]
        rw [hwa]
        exact hu.2.2
      · rw [ee, hn]
end Go.Proofs.Ytgddlpabgeeflaa
