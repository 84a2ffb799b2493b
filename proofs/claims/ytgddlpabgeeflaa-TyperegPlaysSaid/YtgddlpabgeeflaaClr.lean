/-
  Rows of the call's own with a colour; a tape beside them; what a registry says of types that it knows. No conditions beyond those that each lemma states.
-/
import Derived.Test.YtgddlpabgeeflaaAwt
import Derived.Test.YtgddlpabgeeflaaMde
namespace Go.Proofs.Ytgddlpabgeeflaa
open Go.ChangeShapes Go.WideShapes Go.RowKit
set_option linter.unusedVariables false
set_option maxHeartbeats 4000000
set_option maxRecDepth 100000

/-- An integer. -/
def int1 : Enc Int where
  k := 1
  ev := fun x => [.int .i64 x]
  len := fun _ => rfl
  one := fun x u hu => by
    simp only [List.mem_singleton] at hu
    subst hu
    rfl
  pos := by omega
/-- A row of the call's own whose block has the colour k. -/
def OwC {α : Type} (k : Nat) (E : Enc α) (t : TypeId) (w : World) (c : Nat → Nat) (v : Value) (l : List α) : Prop := OwnK E t w 0 v l ∧ ∀ g, v.ownBlock = some g → c g = k
/-- Blocks from n on get the colour 0, but the row's own block gets the colour k. -/
def cn (c : Nat → Nat) (n k : Nat) (v : Value) : Nat → Nat := fun g => if g < n then c g else if v.ownBlock = some g then k else 0
theorem cn_old {c : Nat → Nat} {n k g : Nat} {v : Value} (h : g < n) : cn c n k v g = c g := if_pos h
theorem cn_new {c : Nat → Nat} {n k g : Nat} {v : Value} (h : n ≤ g) (hg : v.ownBlock ≠ some g) : cn c n k v g = 0 := by
  unfold cn
  rw [if_neg (by omega), if_neg hg]
section
variable {α : Type} {E : Enc α} {t : TypeId} {w w' : World} {c c' : Nat → Nat} {j k b : Nat} {v v' : Value} {l l' : List α}
theorem OwC.nil : OwC k E t w c (.slice none 0 0) [] := ⟨OwnK.nil _ _ _ _, fun g hg => by cases hg⟩
theorem OwC.kept (h : OwC k E t w c v l) (hk : Kept c j w w') (hjk : j ≠ k) (hc : ∀ g, g < w.heap.size → c' g = c g) : OwC k E t w' c' v l :=
  ⟨h.1.keptC hk (fun g hg => by rw [h.2 g hg]; omega), fun g hg => (hc g (h.1.ge hg).2).trans (h.2 g hg)⟩
theorem Kept.ofOth (h : Oth b w w') (hc : c b = k) : Kept c k w w' := ⟨h.os, h.tape, h.output, h.size, fun g hg hne => h.block g hg (fun e => hne (by rw [e]; exact hc))⟩
/-- What an append to such a row gives. -/
theorem OwC.app (h : OwC k E t w c v l) (ho : OwnK E t w' 0 v' l') (hg : w.grownBy w' v.ownBlock) (hv : v'.ownBlock = v.ownBlock ∨ v'.ownBlock = some w.heap.size) : OwC k E t w' (cn c w.heap.size k v') v' l' ∧ Kept c k w w' := by
  refine ⟨⟨ho, fun g hgo => ?_⟩, Kept.ofGrown hg h.2⟩
  unfold cn
  by_cases hlt : g < w.heap.size
  · rw [if_pos hlt]
    rcases hv with e | e
    · exact h.2 g (e ▸ hgo)
    · rw [e] at hgo
      cases hgo
      omega
  · rw [if_neg hlt, if_pos hgo]
end
theorem TS.keptC {w w' : World} {c : Nat → Nat} {k tb i : Nat} {L : List Int} (h : TS w tb L i) (hk : Kept c k w w') (htb : c tb ≠ k)
    (hlow : ∀ g, g < tb → c g = k → ∃ v ty fr, w.heap[g]? = some (.cells #[v] ty fr) ∧ ∀ x, v ≠ .int .u16 x) : TS w' tb L i := by
  have hlt := h.lt
  obtain ⟨A, m, cc, ht, hr⟩ := h
  refine ⟨A, m, cc, (hk.block tb hlt htb).trans ht, ⟨hr.len, hr.cap, hr.small, hr.nil, fun hm => ?_⟩⟩
  obtain ⟨b, o, rfl, hb, hcell⟩ := hr.cells hm
  refine ⟨b, o, rfl, hb, fun q hq => ?_⟩
  have hcb : c b ≠ k := by
    intro e
    obtain ⟨v, ty, fr, hv, hne⟩ := hlow b hb e
    have h1 := hcell 0 hm
    rw [Nat.add_zero, cell_of_row w b o _ _ _ hv, iv_at (by have := hr.len; rw [iv_len] at this; omega)] at h1
    have h2 := (Array.getElem?_eq_some_iff.1 h1).1
    simp at h2
    subst h2
    simp at h1
    exact hne _ h1
  rw [World.cell?_of_block (hk.block b (by omega) hcb)]
  exact hcell q hq

/-- The tags of some types. -/
def tg (T : List (Int × List (Int × Int))) (X : List Ty) : List Int := X.map fun r => ixT r.t T + 1
theorem tg_len {T : List (Int × List (Int × Int))} {X : List Ty} : (tg T X).length = X.length := by simp [tg]
theorem tg_at {T : List (Int × List (Int × Int))} {X : List Ty} {i : Nat} {r : Ty} (h : X[i]? = some r) : (tg T X)[i]? = some (ixT r.t T + 1) := by simp [tg, h]
theorem made_chk (L : List Int) (i : Nat) : chk (typV L i).1 (typV L i).2 = 0 ∧ 0 < (typV L i).2.length ∧ (typV L i).2.length ≤ 4 := by
  obtain ⟨h1, h2⟩ := typ_ok L i
  refine ⟨(made_places h1 (by omega)).1, by omega, by omega⟩
theorem flds_n {L : List Int} : ∀ {k i : Nat}, i ≤ (flds L k i).2 ∧ (flds L k i).2 ≤ i + 2 * k
  | 0, i => by simp [flds]
  | k + 1, i => by
    have h1 := fldN_le (L := L) (i := i)
    have h2 := flds_n (L := L) (k := k) (i := fldN L i)
    simp only [flds]
    omega
theorem typN_le {L : List Int} {i : Nat} : typN L i ≤ i + 12 := by
  have h5 : 0 ≤ num L (i + 1) % 4 := Int.emod_nonneg _ (by omega)
  have h6 : num L (i + 1) % 4 < 4 := Int.emod_lt_of_pos _ (by omega)
  unfold typN
  split
  · have := fldN_le (L := L) (i := i + 2)
    omega
  · have := flds_n (L := L) (k := 1 + (num L (i + 1) % 4).toNat) (i := i + 2)
    omega
theorem rg_known {T : List (Int × List (Int × Int))} {x : Int × List (Int × Int)} (hc : chk x.1 x.2 = 0) (hT : T.length < 255) :
    rgV T x = (ixT x (rgT T x) + 1, 0) ∧ x ∈ rgT T x ∧ (∀ y ∈ T, y ∈ rgT T x ∧ ixT y (rgT T x) = ixT y T) ∧ (rgT T x).length ≤ T.length + 1 := by
  by_cases hx : x ∈ T
  · have e : rgT T x = T := by unfold rgT; rw [if_neg (fun h => h.2.1 hx)]
    rw [e]
    refine ⟨?_, hx, fun y hy => ⟨hy, rfl⟩, by omega⟩
    unfold rgV
    rw [if_neg (by simpa using hc), if_pos hx]
  · have e : rgT T x = T ++ [x] := by unfold rgT; rw [if_pos ⟨hc, hx, by omega⟩]
    rw [e]
    have hm : x ∈ T ++ [x] := by simp
    have hix : ixT x (T ++ [x]) = T.length := by
      unfold ixT
      rw [if_pos hm, List.idxOf_append, if_neg hx]
      simp
    refine ⟨?_, hm, fun y hy => ⟨by simp [hy], ?_⟩, by simp⟩
    · unfold rgV
      rw [if_neg (by simpa using hc), if_neg hx, if_neg (by omega), hix]
    · unfold ixT
      rw [if_pos (by simp [hy]), if_pos hy, List.idxOf_append, if_pos hy]
theorem ix_get {T : List (Int × List (Int × Int))} {y : Int × List (Int × Int)} (h : y ∈ T) : T[T.idxOf y]? = some y := by
  have hl := List.idxOf_lt_length_of_mem h
  rw [List.getElem?_eq_getElem hl]
  congr 1
  exact List.getElem_idxOf hl
theorem lk_known {T : List (Int × List (Int × Int))} {y : Int × List (Int × Int)} (h : y ∈ T) : lkT T (ixT y T + 1) = y ∧ lkE T (ixT y T + 1) = 0 := by
  have h1 := ixT_lt h
  have h2 : ixT y T = (T.idxOf y : Int) := if_pos h
  unfold lkT lkE
  rw [if_neg (by omega), if_neg (by omega), h2, show ((T.idxOf y : Int) + 1 - 1).toNat = T.idxOf y by omega, List.getD_eq_getElem?_getD, ix_get h]
  exact ⟨rfl, rfl⟩
theorem ix_inj {T : List (Int × List (Int × Int))} {y z : Int × List (Int × Int)} (hy : y ∈ T) (hz : z ∈ T) : ixT y T + 1 = ixT z T + 1 ↔ y = z := by
  refine ⟨fun h => ?_, fun h => by rw [h]⟩
  have h1 : ixT y T = (T.idxOf y : Int) := if_pos hy
  have h2 : ixT z T = (T.idxOf z : Int) := if_pos hz
  have h3 : T.idxOf y = T.idxOf z := by omega
  have h4 := ix_get hy
  rw [h3, ix_get hz] at h4
  exact (Option.some.inj h4).symm
theorem tg_same {T T' : List (Int × List (Int × Int))} {X : List Ty} (h : ∀ r ∈ X, ixT r.t T' = ixT r.t T) : tg T' X = tg T X := by
  unfold tg
  exact List.map_congr_left fun r hr => by rw [h r hr]
end Go.Proofs.Ytgddlpabgeeflaa
