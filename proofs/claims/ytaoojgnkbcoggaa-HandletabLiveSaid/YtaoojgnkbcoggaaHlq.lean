/-
  What the handles that were issued and the entries that are live have to do with a table, step by step. No conditions beyond those that each lemma states.
-/
import Derived.Test.YtaoojgnkbcoggaaHst
namespace Go.Proofs.Ytaoojgnkbcoggaa
open Go.ChangeShapes Go.WideShapes Go.RowKit
set_option linter.unusedVariables false
set_option maxHeartbeats 4000000

theorem Ht.resE_dead' {t : Ht} {h : Int} {j : Nat} (hs : wSl h = (j : Int)) (hj : j < t.e.length) (hd : t.lv j = false) : t.resE h = 11 := by
  unfold Ht.resE
  rw [hs, Int.toNat_natCast, if_neg (by omega), if_neg (by rw [hd]; simp)]
theorem Ht.resE_old' {t : Ht} {h : Int} {j : Nat} (hs : wSl h = (j : Int)) (hj : j < t.e.length) (hg : ¬ t.s.gen.getD j 0 = wGn h) : t.resE h = 11 := by
  unfold Ht.resE
  rw [hs, Int.toNat_natCast, if_neg (by omega), if_neg (fun e => hg e.2)]
theorem Ht.resE_is' {t : Ht} {h : Int} {j : Nat} (hs : wSl h = (j : Int)) (hj : j < t.e.length) (hd : t.lv j = true) (hg : t.s.gen.getD j 0 = wGn h) (ht : (t.en j).t = wTg h) : t.resE h = 0 ∧ t.resV h = t.en j := by
  have h0 : t.resE h = 0 := by
    unfold Ht.resE
    rw [hs, Int.toNat_natCast, if_neg (by omega), if_pos ⟨hd, hg⟩, if_pos ht]
  refine ⟨h0, ?_⟩
  unfold Ht.resV
  rw [if_pos h0, hs, Int.toNat_natCast]
/-- E: the handles that were issued; L: the live entries. -/
structure Liv (t : Ht) (N : Nat) (E : List Int) (L : List En) : Prop where
  wf : t.Wf N
  ev : ∀ h ∈ E, U64 h ∧ ∃ j : Nat, wSl h = (j : Int) ∧ j < N ∧ wGn h ≤ t.s.gen.getD j 0 ∧ 1 ≤ wGn h ∧ (t.lv j = true → wGn h = t.s.gen.getD j 0 → h = (t.en j).h)
  lv : ∀ x ∈ L, ∃ j, t.lv j = true ∧ t.en j = x
  al : ∀ j, t.lv j = true → t.en j ∈ L
  ae : ∀ j, t.lv j = true → (t.en j).h ∈ E
  ln : (L.map En.h).Nodup
section
variable {t : Ht} {N j m : Nat} {E : List Int} {L : List En} {o g f l d h : Int} {x y : En}
theorem Ht.Wf.parts (H : t.Wf N) (hN : N ≤ 4096) (hl : t.lv j = true) : U64 (t.en j).h ∧ wSl (t.en j).h = (j : Int) ∧ wGn (t.en j).h = t.s.gen.getD j 0 ∧ wTg (t.en j).h = (t.en j).t := by
  obtain ⟨h1, h2, h3⟩ := H.en j hl
  have h4 := H.gn hl
  have h5 := H.lvlt hl
  unfold okT at h2
  rw [h1]
  exact ⟨word_bd (by omega) (by omega) (by omega), word_slot (by omega), word_gen (by omega) (by omega), word_tag (by omega) (by omega)⟩
theorem Liv.new {n : Nat} {first : Int} (hf : 1 ≤ first ∧ first ≤ 4294967295) : Liv (Ht.new n first) n [] [] := by
  have hlv : ∀ i, (Ht.new n first).lv i = false := fun i => by
    simp only [Ht.lv, Ht.new, Gs.new, List.getD_eq_getElem?_getD, List.getElem?_replicate]
    split <;> rfl
  refine ⟨Ht.wf_new hf, fun h hh => (by cases hh), fun x hx => (by cases hx), fun j hj => ?_, fun j hj => ?_, List.Pairwise.nil⟩
  · rw [hlv] at hj
    cases hj
  · rw [hlv] at hj
    cases hj
theorem Liv.only (H : Liv t N E L) (hN : N ≤ 4096) (hx : x ∈ L) (hy : y ∈ L) (h : x.h = y.h) : x = y := by
  obtain ⟨i, h1, rfl⟩ := H.lv x hx
  obtain ⟨j, h2, rfl⟩ := H.lv y hy
  have e1 := (H.wf.parts hN h1).2.1
  have e2 := (H.wf.parts hN h2).2.1
  rw [h] at e1
  have : i = j := by omega
  rw [this]
/-- What Resolve says of a handle that was issued. -/
theorem Liv.res (H : Liv t N E L) (hN : N ≤ 4096) (hh : h ∈ E) : (t.resE h = 0 ∧ ∃ x ∈ L, x.h = h ∧ t.resV h = x) ∨ (t.resE h = 11 ∧ ∀ x ∈ L, x.h ≠ h) := by
  obtain ⟨hu, j, h1, h2, h3, h4, h5⟩ := H.ev h hh
  have hel : j < t.e.length := by rw [H.wf.el]; exact h2
  have hno : ¬ (t.lv j = true ∧ wGn h = t.s.gen.getD j 0) → ∀ x ∈ L, x.h ≠ h := fun hn x hx e => by
    obtain ⟨i, k1, rfl⟩ := H.lv x hx
    obtain ⟨_, k2, k3, _⟩ := H.wf.parts hN k1
    rw [e] at k2 k3
    have : i = j := by omega
    subst this
    exact hn ⟨k1, k3⟩
  cases hl : t.lv j
  · exact .inr ⟨Ht.resE_dead' h1 hel hl, hno (by rw [hl]; simp)⟩
  · by_cases hg : t.s.gen.getD j 0 = wGn h
    · have e := h5 hl hg.symm
      have ht : (t.en j).t = wTg h := by
        rw [e]
        exact (H.wf.parts hN hl).2.2.2.symm
      obtain ⟨r1, r2⟩ := Ht.resE_is' h1 hel hl hg ht
      exact .inl ⟨r1, _, H.al j hl, e.symm, r2⟩
    · exact .inr ⟨Ht.resE_old' h1 hel hg, hno (fun e => hg e.2.symm)⟩
theorem Liv.iss (H : Liv t N E L) (hN : N ≤ 4096) (he : t.issE o g = 0) : Liv (t.issN o g f l d) N (E ++ [t.issH o g d]) (L ++ [t.ent o g f l d]) ∧ t.issH o g d ∉ E := by
  obtain ⟨ho, hg, hf⟩ := Ht.issE_ok he
  obtain ⟨_, hx, hj, hdead, hn1, hn2, hlf⟩ := H.wf.sl (d := d) hf
  have hH : t.issH o g d = word (t.slot d) (t.s.nxt (t.slot d)) g := if_pos he
  have hgn : ∀ i, (t.issN o g f l d).s.gen.getD i 0 = if i = t.slot d then t.s.nxt (t.slot d) else t.s.gen.getD i 0 := fun i => by
    rw [Ht.issN_ok he]
    exact Ht.gen_iss H.wf hf i
  have hlt : t.s.gen.getD (t.slot d) 0 < t.s.nxt (t.slot d) := by
    obtain ⟨j, _, h2, h3, _, h5⟩ := Gs.iss_ok (d := d) H.wf.gs hf
    have e : t.slot d = j := by unfold Ht.slot; rw [h2]; omega
    rw [e]
    exact (H.wf.gs.nx h3 h5).2.2
  unfold okT at hg
  have w1 : wSl (word (t.slot d) (t.s.nxt (t.slot d)) g) = (t.slot d : Int) := word_slot ⟨by omega, by omega⟩
  have w2 : wGn (word (t.slot d) (t.s.nxt (t.slot d)) g) = t.s.nxt (t.slot d) := word_gen ⟨by omega, by omega⟩ ⟨by omega, by omega⟩
  have w3 : U64 (word (t.slot d) (t.s.nxt (t.slot d)) g) := word_bd ⟨by omega, by omega⟩ ⟨by omega, by omega⟩ ⟨by omega, by omega⟩
  have hfresh : t.issH o g d ∉ E := fun hm => by
    obtain ⟨_, j, h1, h2, h3, _⟩ := H.ev _ hm
    rw [hH, w1] at h1
    rw [hH, w2] at h3
    have : j = t.slot d := by omega
    subst this
    omega
  refine ⟨⟨H.wf.iss, fun h hh => ?_, fun x hx => ?_, fun j hj => ?_, fun j hj => ?_, ?_⟩, hfresh⟩
  · rcases List.mem_append.1 hh with hh | hh
    · obtain ⟨hu, j, h1, h2, h3, h4, h5⟩ := H.ev h hh
      refine ⟨hu, j, h1, h2, ?_, h4, fun hl hg' => ?_⟩
      · rw [hgn]
        split
        · rename_i e
          subst e
          omega
        · exact h3
      · rw [Ht.lv_issN H.wf he] at hl
        rw [hgn] at hg'
        rw [Ht.en_issN H.wf he]
        by_cases e : j = t.slot d
        · subst e
          rw [if_pos rfl] at hg'
          omega
        · rw [if_neg e] at hg' ⊢
          exact h5 (by simpa [e] using hl) hg'
    · obtain rfl := List.mem_singleton.1 hh
      rw [hH]
      refine ⟨w3, t.slot d, w1, hj, by rw [hgn, if_pos rfl, w2]; omega, by rw [w2]; omega, fun _ _ => ?_⟩
      rw [Ht.en_issN H.wf he, if_pos rfl]
      rfl
  · rcases List.mem_append.1 hx with hx | hx
    · obtain ⟨j, h1, rfl⟩ := H.lv x hx
      have e : j ≠ t.slot d := fun e => by
        rw [e, hdead] at h1
        cases h1
      exact ⟨j, by rw [Ht.lv_issN H.wf he, h1]; simp, by rw [Ht.en_issN H.wf he, if_neg e]⟩
    · obtain rfl := List.mem_singleton.1 hx
      exact ⟨t.slot d, by rw [Ht.lv_issN H.wf he]; simp, by rw [Ht.en_issN H.wf he, if_pos rfl]⟩
  · rw [Ht.lv_issN H.wf he] at hj
    rw [Ht.en_issN H.wf he]
    by_cases e : j = t.slot d
    · rw [if_pos e]
      simp
    · rw [if_neg e]
      exact List.mem_append_left _ (H.al j (by simpa [e] using hj))
  · rw [Ht.lv_issN H.wf he] at hj
    rw [Ht.en_issN H.wf he]
    by_cases e : j = t.slot d
    · rw [if_pos e, hH]
      simp [Ht.ent]
    · rw [if_neg e]
      exact List.mem_append_left _ (H.ae j (by simpa [e] using hj))
  · rw [List.map_append, List.nodup_append]
    refine ⟨H.ln, by simp, fun a ha b hb e => ?_⟩
    obtain ⟨x, hx, rfl⟩ := List.mem_map.1 ha
    simp only [List.map_cons, List.map_nil, List.mem_singleton] at hb
    obtain ⟨j, h1, rfl⟩ := H.lv x hx
    refine hfresh ?_
    rw [hH, show word (t.slot d) (t.s.nxt (t.slot d)) g = (t.en j).h from by rw [e, hb]; rfl]
    exact H.ae j h1
theorem cut_mem {l : List En} {m : Nat} {x : En} : x ∈ l.take m ++ l.drop (m + 1) ↔ ∃ i, i ≠ m ∧ l[i]? = some x := by
  constructor
  · intro h
    rcases List.mem_append.1 h with h | h
    · obtain ⟨i, hi, e⟩ := List.mem_take_iff_getElem.1 h
      exact ⟨i, by omega, by rw [List.getElem?_eq_getElem (by omega), e]⟩
    · obtain ⟨i, hi, e⟩ := List.mem_drop_iff_getElem.1 h
      exact ⟨m + 1 + i, by omega, by rw [List.getElem?_eq_getElem (by omega), e]⟩
  · rintro ⟨i, hi, e⟩
    obtain ⟨hl, e⟩ := List.getElem?_eq_some_iff.1 e
    by_cases h : i < m
    · exact List.mem_append_left _ (List.mem_take_iff_getElem.2 ⟨i, by omega, e⟩)
    · refine List.mem_append_right _ (List.mem_drop_iff_getElem.2 ⟨i - (m + 1), by omega, ?_⟩)
      rw [← e]
      congr 1
      omega
theorem Liv.at_ (H : Liv t N E L) (hN : N ≤ 4096) (i k : Nat) (hi : L[i]? = some x) (hk : L[k]? = some y) (h : x.h = y.h) : i = k := by
  obtain ⟨h1, e1⟩ := List.getElem?_eq_some_iff.1 hi
  obtain ⟨h2, e2⟩ := List.getElem?_eq_some_iff.1 hk
  have hn := H.ln
  rw [List.Nodup, List.pairwise_iff_getElem] at hn
  rcases Nat.lt_trichotomy i k with h3 | h3 | h3
  · exfalso
    refine hn i k (by simpa using h1) (by simpa using h2) h3 ?_
    rw [List.getElem_map, List.getElem_map, e1, e2]
    exact h
  · exact h3
  · exfalso
    refine hn k i (by simpa using h2) (by simpa using h1) h3 ?_
    rw [List.getElem_map, List.getElem_map, e1, e2]
    exact h.symm
theorem Liv.drp (H : Liv t N E L) (hN : N ≤ 4096) (hu : U64 h) (hr : t.resE h = 0) (hm : L[m]? = some x) (hx : x.h = h) : Liv (t.drpN h) N E (L.take m ++ L.drop (m + 1)) := by
  obtain ⟨j, hj, hjN, hl, hgn, htg, hjh⟩ := Ht.res_ok H.wf hr hu
  have hmx := List.mem_of_getElem? hm
  have hxe : x = t.en j := H.only hN hmx (H.al j hl) (by rw [hx, hjh])
  refine ⟨H.wf.drp hu, fun h' hh => ?_, fun y hy => ?_, fun i hi => ?_, fun i hi => ?_, ?_⟩
  · obtain ⟨hu', i, h1, h2, h3, h4, h5⟩ := H.ev h' hh
    refine ⟨hu', i, h1, h2, by rw [Ht.gen_drp]; exact h3, h4, fun hl' hg' => ?_⟩
    rw [Ht.lv_drp H.wf hr hu] at hl'
    simp only [Bool.and_eq_true] at hl'
    rw [Ht.gen_drp] at hg'
    rw [Ht.en_drp]
    exact h5 hl'.2 hg'
  · obtain ⟨i, hi, hy'⟩ := cut_mem.1 hy
    obtain ⟨k, k1, rfl⟩ := H.lv y (List.mem_of_getElem? hy')
    refine ⟨k, ?_, Ht.en_drp k⟩
    rw [Ht.lv_drp H.wf hr hu, k1, hj]
    have : k ≠ j := fun e => by
      subst e
      exact hi (H.at_ hN i m hy' hm (by rw [hxe]))
    have : ¬ (k : Int) = (j : Int) := by omega
    simp [this]
  · rw [Ht.lv_drp H.wf hr hu, hj] at hi
    simp only [Bool.and_eq_true, Bool.not_eq_true', decide_eq_false_iff_not] at hi
    rw [Ht.en_drp]
    obtain ⟨q, hq⟩ := List.getElem?_of_mem (H.al i hi.2)
    refine cut_mem.2 ⟨q, fun e => ?_, hq⟩
    subst e
    rw [hm] at hq
    have e2 := Option.some.inj hq
    rw [hxe] at e2
    have e3 := (H.wf.parts hN hl).2.1
    have e4 := (H.wf.parts hN hi.2).2.1
    rw [e2] at e3
    omega
  · rw [Ht.lv_drp H.wf hr hu] at hi
    simp only [Bool.and_eq_true] at hi
    rw [Ht.en_drp]
    exact H.ae i hi.2
  · rw [List.map_append, List.map_take, List.map_drop]
    have hn := H.ln
    rw [← List.take_append_drop m (L.map En.h)] at hn
    rw [List.nodup_append] at hn ⊢
    refine ⟨hn.1, ?_, fun a ha b hb e => hn.2.2 a ha b ?_ e⟩
    · have := hn.2.1
      have e2 : (L.map En.h).drop (m + 1) = ((L.map En.h).drop m).drop 1 := by rw [List.drop_drop]
      rw [e2]
      exact this.sublist (List.drop_sublist 1 _)
    · have e2 : (L.map En.h).drop (m + 1) = ((L.map En.h).drop m).drop 1 := by rw [List.drop_drop]
      rw [e2] at hb
      exact List.mem_of_mem_drop hb
end
end Go.Proofs.Ytaoojgnkbcoggaa
