/-
  A table of handles as plain functions, and what always holds of it. No conditions beyond those that each lemma states.
-/
import Derived.Test.YtaoojgnkbcoggaaGst
import Derived.Test.YtaoojgnkbcoggaaHwd
namespace Go.Proofs.Ytaoojgnkbcoggaa
open Go.ChangeShapes Go.WideShapes Go.RowKit
set_option linter.unusedVariables false
set_option maxHeartbeats 4000000

/-- An entry: the handle, the owner, the tag, the extent. -/
structure En where
  h : Int
  o : Int
  t : Int
  f : Int
  l : Int
deriving DecidableEq
def En.z : En := ⟨0, 0, 0, 0, 0⟩
/-- A table: its slots, and an entry for each slot (of a slot that isn't live: what lay there last). -/
structure Ht where
  s : Gs
  e : List En
def Ht.new (n : Nat) (first : Int) : Ht := ⟨Gs.new n first, List.replicate n En.z⟩
def Ht.en (t : Ht) (j : Nat) : En := t.e.getD j En.z
def Ht.lv (t : Ht) (j : Nat) : Bool := t.s.live.getD j false
/-- The entries as the program holds them. -/
def Ht.pe (t : Ht) : List En := (List.range t.e.length).map fun j => if t.lv j = true then t.en j else En.z
def okO (o : Int) : Prop := 1 ≤ o ∧ o ≤ 64
def okT (t : Int) : Prop := 1 ≤ t ∧ t ≤ 255
instance (o : Int) : Decidable (okO o) := by unfold okO; infer_instance
instance (o : Int) : Decidable (okT o) := by unfold okT; infer_instance
/-- The slot that Issue takes, and the entry that it stores. -/
def Ht.slot (t : Ht) (d : Int) : Nat := (tkX 0 t.s.free d).toNat
def Ht.ent (t : Ht) (o g f l d : Int) : En := ⟨word (t.slot d) (t.s.nxt (t.slot d)) g, o, g, f, l⟩
def Ht.issE (t : Ht) (o g : Int) : Int := if okO o ∧ okT g then (if t.s.free = [] then 17 else 0) else 1
def Ht.issH (t : Ht) (o g d : Int) : Int := if t.issE o g = 0 then word (t.slot d) (t.s.nxt (t.slot d)) g else 0
def Ht.issN (t : Ht) (o g f l d : Int) : Ht := if t.issE o g = 0 then ⟨t.s.issN d, t.e.set (t.slot d) (t.ent o g f l d)⟩ else t
def Ht.resE (t : Ht) (h : Int) : Int :=
  if (t.e.length : Int) ≤ wSl h then 10 else if t.lv (wSl h).toNat = true ∧ t.s.gen.getD (wSl h).toNat 0 = wGn h then (if (t.en (wSl h).toNat).t = wTg h then 0 else 12) else 11
def Ht.resV (t : Ht) (h : Int) : En := if t.resE h = 0 then t.en (wSl h).toNat else En.z
def Ht.drpN (t : Ht) (h : Int) : Ht := if t.resE h = 0 then ⟨t.s.endN (wSl h), t.e⟩ else t
def Ht.givE (t : Ht) (h o : Int) : Int := if t.resE h = 0 then (if okO o then 0 else 1) else t.resE h
def Ht.givN (t : Ht) (h o : Int) : Ht := if t.givE h o = 0 then ⟨t.s, t.e.set (wSl h).toNat { t.en (wSl h).toNat with o := o }⟩ else t
/-- The live entries of the first n slots. -/
def Ht.upto (t : Ht) (n : Nat) : List En := (List.range n).filterMap fun j => if t.lv j = true then some (t.en j) else none
def Ht.all (t : Ht) : List En := t.upto t.e.length
structure Ht.Wf (t : Ht) (N : Nat) : Prop where
  gs : t.s.Wf N
  el : t.e.length = N
  en : ∀ j, t.lv j = true → (t.en j).h = word j (t.s.gen.getD j 0) (t.en j).t ∧ okT (t.en j).t ∧ okO (t.en j).o
theorem egetD_set_eq {l : List En} {j : Nat} {v : En} (h : j < l.length) : (l.set j v).getD j En.z = v := by
  rw [List.getD_eq_getElem?_getD, List.getElem?_set_self h]
  rfl
theorem egetD_set_ne {l : List En} {i j : Nat} {v : En} (h : i ≠ j) : (l.set i v).getD j En.z = l.getD j En.z := by
  rw [List.getD_eq_getElem?_getD, List.getElem?_set_ne h, List.getD_eq_getElem?_getD]
section
variable {t : Ht} {N j n : Nat} {o g f l d h : Int}
theorem Ht.lv_iff : t.lv j = true ↔ t.s.live[j]? = some true := by
  unfold Ht.lv
  rw [List.getD_eq_getElem?_getD]
  rcases t.s.live[j]? with _ | b <;> simp
theorem Ht.Wf.lvlt (H : t.Wf N) (hl : t.lv j = true) : j < N := by
  have := (List.getElem?_eq_some_iff.1 (Ht.lv_iff.1 hl)).1
  rw [H.gs.ll] at this
  exact this
theorem Ht.Wf.gn (H : t.Wf N) (hl : t.lv j = true) : 1 ≤ t.s.gen.getD j 0 ∧ t.s.gen.getD j 0 ≤ 4294967295 := by
  have h1 := H.gs.gb j (H.lvlt hl)
  have h2 := H.gs.lg j (Ht.lv_iff.1 hl)
  have h3 := H.gs.f1
  omega
theorem Ht.wf_new {first : Int} (h : 1 ≤ first ∧ first ≤ 4294967295) : (Ht.new n first).Wf n := by
  refine ⟨Gs.wf_new h, by simp [Ht.new], fun j hj => ?_⟩
  exfalso
  rw [Ht.lv_iff] at hj
  simp only [Ht.new, Gs.new, List.getElem?_replicate] at hj
  split at hj <;> simp at hj
theorem Ht.pe_len : t.pe.length = t.e.length := by simp [Ht.pe]
theorem Ht.pe_at (h : j < t.e.length) : t.pe[j]? = some (if t.lv j = true then t.en j else En.z) := by simp [Ht.pe, List.getElem?_map, List.getElem?_range h]
theorem Ht.pe_new {first : Int} : (Ht.new n first).pe = List.replicate n En.z := by
  refine List.ext_getElem? fun i => ?_
  by_cases hi : i < n
  · rw [Ht.pe_at (by simpa [Ht.new] using hi), List.getElem?_replicate, if_pos hi]
    have : (Ht.new n first).lv i = false := by simp [Ht.lv, Ht.new, Gs.new, List.getD_eq_getElem?_getD, hi]
    rw [this]
    rfl
  · rw [List.getElem?_eq_none (by rw [Ht.pe_len]; simp [Ht.new]; omega), List.getElem?_eq_none (by simp; omega)]
theorem Ht.en_at (h : j < t.e.length) : t.e[j]? = some (t.en j) := by
  unfold Ht.en
  rw [List.getD_eq_getElem?_getD, List.getElem?_eq_getElem h]
  rfl
/-- What Issue takes. -/
theorem Ht.Wf.sl (H : t.Wf N) (hf : t.s.free ≠ []) : t.s.issV d = ((t.slot d : Int), t.s.nxt (t.slot d), 0) ∧ tkX 0 t.s.free d = (t.slot d : Int) ∧ t.slot d < N ∧ t.lv (t.slot d) = false ∧ 1 ≤ t.s.nxt (t.slot d) ∧ t.s.nxt (t.slot d) ≤ 4294967295 ∧ t.s.live[t.slot d]? = some false := by
  obtain ⟨j, h1, h2, h3, h4, h5⟩ := Gs.iss_ok (d := d) H.gs hf
  have e : t.slot d = j := by unfold Ht.slot; rw [h2]; omega
  have h6 := H.gs.nx h3 h5
  have h7 := H.gs.f1
  rw [e]
  exact ⟨h1, h2, h3, by unfold Ht.lv; rw [List.getD_eq_getElem?_getD, h4]; rfl, by omega, by omega, h4⟩
theorem Ht.iss_none (hf : t.s.free = []) : t.s.issV d = (0, 0, 17) := if_pos hf
theorem Ht.lv_iss (H : t.Wf N) (hf : t.s.free ≠ []) (i : Nat) : (⟨t.s.issN d, t.e⟩ : Ht).lv i = (decide (i = t.slot d) || t.lv i) := by
  obtain ⟨_, hx, hj, _⟩ := H.sl (d := d) hf
  have e : (t.s.issN d).live = t.s.live.set (t.slot d) true := by
    unfold Gs.issN
    rw [if_neg hf]
    rfl
  unfold Ht.lv
  simp only [e]
  by_cases hi : i = t.slot d
  · subst hi
    rw [List.getD_eq_getElem?_getD, List.getElem?_set_self (by rw [H.gs.ll]; exact hj)]
    simp
  · rw [List.getD_eq_getElem?_getD, List.getElem?_set_ne (by omega), ← List.getD_eq_getElem?_getD]
    simp [hi]
theorem Ht.gen_iss (H : t.Wf N) (hf : t.s.free ≠ []) (i : Nat) : (t.s.issN d).gen.getD i 0 = if i = t.slot d then t.s.nxt (t.slot d) else t.s.gen.getD i 0 := by
  obtain ⟨_, hx, hj, _⟩ := H.sl (d := d) hf
  have e : (t.s.issN d).gen = t.s.gen.set (t.slot d) (t.s.nxt (t.slot d)) := by
    unfold Gs.issN
    rw [if_neg hf]
    rfl
  rw [e]
  by_cases hi : i = t.slot d
  · subst hi
    rw [getD_set_eq (by rw [H.gs.gl]; exact hj), if_pos rfl]
  · rw [getD_set_ne (by omega), if_neg hi]
theorem Ht.issE_ok (he : t.issE o g = 0) : okO o ∧ okT g ∧ t.s.free ≠ [] := by
  unfold Ht.issE at he
  split at he
  · rename_i h
    split at he
    · omega
    · rename_i h'
      exact ⟨h.1, h.2, h'⟩
  · omega
theorem Ht.issN_ok (he : t.issE o g = 0) : t.issN o g f l d = ⟨t.s.issN d, t.e.set (t.slot d) (t.ent o g f l d)⟩ := if_pos he
theorem Ht.lv_issN (H : t.Wf N) (he : t.issE o g = 0) (i : Nat) : (t.issN o g f l d).lv i = (decide (i = t.slot d) || t.lv i) := by
  rw [Ht.issN_ok he]
  exact Ht.lv_iss H (Ht.issE_ok he).2.2 i
theorem Ht.en_issN (H : t.Wf N) (he : t.issE o g = 0) (i : Nat) : (t.issN o g f l d).en i = if i = t.slot d then t.ent o g f l d else t.en i := by
  rw [Ht.issN_ok he]
  obtain ⟨_, _, hj, _⟩ := H.sl (d := d) (Ht.issE_ok he).2.2
  unfold Ht.en
  by_cases hi : i = t.slot d
  · subst hi
    rw [egetD_set_eq (by rw [H.el]; exact hj), if_pos rfl]
  · rw [egetD_set_ne (by omega), if_neg hi]
theorem Ht.Wf.iss (H : t.Wf N) : (t.issN o g f l d).Wf N := by
  by_cases he : t.issE o g = 0
  · obtain ⟨ho, hg, hf⟩ := Ht.issE_ok he
    refine ⟨by rw [Ht.issN_ok he]; exact H.gs.iss, by rw [Ht.issN_ok he]; simp [H.el], fun i hi => ?_⟩
    rw [Ht.lv_issN H he] at hi
    rw [Ht.en_issN H he]
    have hgn : (t.issN o g f l d).s.gen.getD i 0 = if i = t.slot d then t.s.nxt (t.slot d) else t.s.gen.getD i 0 := by
      rw [Ht.issN_ok he]
      exact Ht.gen_iss H hf i
    rw [hgn]
    by_cases e : i = t.slot d
    · subst e
      rw [if_pos rfl, if_pos rfl]
      exact ⟨rfl, hg, ho⟩
    · rw [if_neg e, if_neg e]
      refine H.en i ?_
      simpa [e] using hi
  · unfold Ht.issN
    rw [if_neg he]
    exact H
theorem Ht.pe_iss (H : t.Wf N) (he : t.issE o g = 0) : (t.issN o g f l d).pe = t.pe.set (t.slot d) (t.ent o g f l d) := by
  have hlen : (t.issN o g f l d).e.length = t.e.length := by rw [Ht.issN_ok he]; simp
  obtain ⟨_, _, hj, _⟩ := H.sl (d := d) (Ht.issE_ok he).2.2
  refine List.ext_getElem? fun i => ?_
  by_cases hi : i < t.e.length
  · rw [Ht.pe_at (by omega), Ht.lv_issN H he, Ht.en_issN H he]
    by_cases e : i = t.slot d
    · subst e
      rw [List.getElem?_set_self (by rw [Ht.pe_len]; exact hi)]
      simp
    · rw [List.getElem?_set_ne (by omega), Ht.pe_at hi]
      simp [e]
  · rw [List.getElem?_eq_none (by rw [Ht.pe_len]; omega), List.getElem?_eq_none (by rw [List.length_set, Ht.pe_len]; omega)]
/-- What it means that a word resolves. -/
theorem Ht.res_ok (H : t.Wf N) (hr : t.resE h = 0) (hu : U64 h) : ∃ j : Nat, wSl h = (j : Int) ∧ j < N ∧ t.lv j = true ∧ t.s.gen.getD j 0 = wGn h ∧ (t.en j).t = wTg h ∧ (t.en j).h = h := by
  have hb := wSl_bd (x := h)
  obtain ⟨j, hj⟩ : ∃ j : Nat, wSl h = (j : Int) := ⟨(wSl h).toNat, by omega⟩
  unfold Ht.resE at hr
  rw [hj, Int.toNat_natCast] at hr
  split at hr
  · omega
  · split at hr
    · rename_i h1
      split at hr
      · rename_i h2
        refine ⟨j, hj, by have := H.el; omega, h1.1, h1.2, h2, ?_⟩
        rw [(H.en j h1.1).1, h1.2, h2, ← hj, word_parts]
      · omega
    · omega
theorem Ht.lv_drp (H : t.Wf N) (hr : t.resE h = 0) (hu : U64 h) (i : Nat) : (t.drpN h).lv i = (!decide ((i : Int) = wSl h) && t.lv i) := by
  obtain ⟨j, hj, hjN, hl, _⟩ := Ht.res_ok H hr hu
  have hof : (t.s.of (j : Int)).2 = true := by
    unfold Gs.of
    rw [if_pos ⟨by omega, by rw [Int.toNat_natCast]; exact Ht.lv_iff.1 hl⟩]
  have e : (t.s.endN (j : Int)).live = t.s.live.set j false := by
    unfold Gs.endN
    rw [if_pos hof, Int.toNat_natCast]
    split <;> rfl
  unfold Ht.drpN
  rw [if_pos hr, hj]
  unfold Ht.lv
  simp only [e]
  by_cases hi : i = j
  · subst hi
    rw [List.getD_eq_getElem?_getD, List.getElem?_set_self (by rw [H.gs.ll]; exact hjN)]
    simp
  · rw [List.getD_eq_getElem?_getD, List.getElem?_set_ne (by omega), ← List.getD_eq_getElem?_getD]
    have : ¬ (i : Int) = (j : Int) := by omega
    simp [this]
theorem Ht.gen_drp (i : Nat) : (t.drpN h).s.gen.getD i 0 = t.s.gen.getD i 0 := by
  unfold Ht.drpN
  split
  · unfold Gs.endN
    split
    · split <;> rfl
    · rfl
  · rfl
theorem Ht.en_drp (i : Nat) : (t.drpN h).en i = t.en i := by
  unfold Ht.drpN
  split <;> rfl
theorem Ht.Wf.drp (H : t.Wf N) (hu : U64 h) : (t.drpN h).Wf N := by
  by_cases hr : t.resE h = 0
  · refine ⟨by unfold Ht.drpN; rw [if_pos hr]; exact H.gs.end_, by unfold Ht.drpN; rw [if_pos hr]; exact H.el, fun i hi => ?_⟩
    rw [Ht.lv_drp H hr hu] at hi
    simp only [Bool.and_eq_true] at hi
    rw [Ht.en_drp, Ht.gen_drp]
    exact H.en i hi.2
  · unfold Ht.drpN
    rw [if_neg hr]
    exact H
theorem Ht.pe_drp (H : t.Wf N) (hr : t.resE h = 0) (hu : U64 h) : (t.drpN h).pe = t.pe.set (wSl h).toNat En.z := by
  obtain ⟨j, hj, hjN, hl, _⟩ := Ht.res_ok H hr hu
  have hlen : (t.drpN h).e.length = t.e.length := by unfold Ht.drpN; rw [if_pos hr]
  rw [hj, Int.toNat_natCast]
  refine List.ext_getElem? fun i => ?_
  by_cases hi : i < t.e.length
  · rw [Ht.pe_at (by omega), Ht.lv_drp H hr hu, Ht.en_drp, hj]
    by_cases e : i = j
    · subst e
      rw [List.getElem?_set_self (by rw [Ht.pe_len]; exact hi)]
      simp
    · rw [List.getElem?_set_ne (by omega), Ht.pe_at hi]
      have : ¬ (i : Int) = (j : Int) := by omega
      simp [this]
  · rw [List.getElem?_eq_none (by rw [Ht.pe_len]; omega), List.getElem?_eq_none (by rw [List.length_set, Ht.pe_len]; omega)]
theorem Ht.giv_ok (hg : t.givE h o = 0) : t.resE h = 0 ∧ okO o := by
  unfold Ht.givE at hg
  split at hg
  · rename_i h1
    split at hg
    · rename_i h2
      exact ⟨h1, h2⟩
    · omega
  · omega
theorem Ht.lv_giv (i : Nat) : (t.givN h o).lv i = t.lv i := by
  unfold Ht.givN
  split <;> rfl
theorem Ht.en_giv (H : t.Wf N) (hg : t.givE h o = 0) (hu : U64 h) (i : Nat) : (t.givN h o).en i = if (i : Int) = wSl h then { t.en i with o := o } else t.en i := by
  obtain ⟨j, hj, hjN, _⟩ := Ht.res_ok H (Ht.giv_ok hg).1 hu
  unfold Ht.givN
  rw [if_pos hg, hj, Int.toNat_natCast]
  unfold Ht.en
  simp only
  by_cases e : i = j
  · subst e
    rw [egetD_set_eq (by rw [H.el]; exact hjN), if_pos rfl]
  · rw [egetD_set_ne (by omega), if_neg (by omega)]
theorem Ht.Wf.giv (H : t.Wf N) (hu : U64 h) : (t.givN h o).Wf N := by
  by_cases hg : t.givE h o = 0
  · have es : (t.givN h o).s = t.s := by unfold Ht.givN; rw [if_pos hg]
    refine ⟨by rw [es]; exact H.gs, by unfold Ht.givN; rw [if_pos hg]; simp [H.el], fun i hi => ?_⟩
    rw [Ht.lv_giv] at hi
    rw [Ht.en_giv H hg hu, es]
    split
    · exact ⟨(H.en i hi).1, (H.en i hi).2.1, (Ht.giv_ok hg).2⟩
    · exact H.en i hi
  · unfold Ht.givN
    rw [if_neg hg]
    exact H
theorem Ht.pe_giv (H : t.Wf N) (hg : t.givE h o = 0) (hu : U64 h) : (t.givN h o).pe = t.pe.set (wSl h).toNat { t.en (wSl h).toNat with o := o } := by
  obtain ⟨j, hj, hjN, hl, _⟩ := Ht.res_ok H (Ht.giv_ok hg).1 hu
  have hlen : (t.givN h o).e.length = t.e.length := by unfold Ht.givN; rw [if_pos hg]; simp
  rw [hj, Int.toNat_natCast]
  refine List.ext_getElem? fun i => ?_
  by_cases hi : i < t.e.length
  · rw [Ht.pe_at (by omega), Ht.lv_giv, Ht.en_giv H hg hu, hj]
    by_cases e : i = j
    · subst e
      rw [List.getElem?_set_self (by rw [Ht.pe_len]; exact hi), if_pos hl, if_pos rfl]
    · rw [List.getElem?_set_ne (by omega), Ht.pe_at hi, if_neg (show ¬ (i : Int) = (j : Int) by omega)]
  · rw [List.getElem?_eq_none (by rw [Ht.pe_len]; omega), List.getElem?_eq_none (by rw [List.length_set, Ht.pe_len]; omega)]
theorem Ht.upto_next : t.upto (n + 1) = t.upto n ++ (if t.lv n = true then [t.en n] else []) := by
  unfold Ht.upto
  rw [List.range_succ, List.filterMap_append]
  congr 1
  simp only [List.filterMap_cons, List.filterMap_nil]
  split <;> simp_all
theorem Ht.upto_len : (t.upto n).length ≤ n := by
  unfold Ht.upto
  refine Nat.le_trans (List.length_filterMap_le _ _) ?_
  simp
/-- A slot's entry tells whether the slot is live. -/
theorem Ht.Wf.valid (H : t.Wf N) (hN : N ≤ 16777216) (hl : t.lv j = true) : okW (t.en j).h = true ∧ U64 (t.en j).h ∧ wSl (t.en j).h = (j : Int) := by
  have hj := H.lvlt hl
  obtain ⟨h1, h2, h3⟩ := H.en j hl
  have h4 := H.gn hl
  unfold okT at h2
  rw [h1]
  refine ⟨?_, word_bd (by omega) (by omega) (by omega), word_slot (by omega)⟩
  unfold okW
  rw [word_gen (by omega) (by omega), word_tag (by omega) (by omega)]
  exact decide_eq_true ⟨by omega, by omega⟩
end
end Go.Proofs.Ytaoojgnkbcoggaa
