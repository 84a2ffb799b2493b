/-
  Contracts of maps.Keys and slices.Sorted at a map of slices keyed by numbers: the keys in ascending order, in new memory. Conditions: the map has at most a million entries.
-/
import Derived.Test.YtmmlelmkgnhofaaShf
import Derived.Test.YtmmlelmkgnhofaaCol
import Derived.Maps.RangeWalk
namespace Go.Proofs.Ytmmlelmkgnhofaa
open Go.ChangeShapes Go.WideShapes Go.RowKit Go.Shelf Go.Maps Go.Sort
set_option linter.unusedVariables false
set_option maxHeartbeats 2000000
set_option maxRecDepth 100000

theorem sorts_in (m : Nat) : AnyZI.SortsIn Try.prog Try.sortedL_ren Fence.wide m :=
  ⟨fun blk off cap ss W hH hblk hsz => callsIn_wide.2 (AnyM.slices_Sort_int Try.sortL blk off cap ss W hH hblk hsz),
   fun p cap W => callsIn_wide.2 (AnyM.slices_Sort_int_none Try.sortL p cap W)⟩
theorem mapKeys_any (mb : Option Nat) (W : World) : Calls Try.prog 54 #[.map mb] W fun e w' =>
    e = .returned (.func (.func 58) #[] #[.pointer (some ⟨W.heap.size, 0, none⟩)]) ∧ w' = W.alloc (.cells #[.map mb] 52) :=
  callsIn_wide.1 (AnyZI.keys_in Try.keysL Fence.wide 5 trivial rfl mb W)
theorem row_map {ks : List Int} : int1.row ks = ks.map encZ := by
  induction ks with
  | nil => rfl
  | cons k ks ih => rw [Enc.row, ih]; rfl
theorem sort_asc {ss : List Int} (hn : ss.Nodup) : (ss.mergeSort leI).Pairwise (fun x y => x < y) := by
  have tr : ∀ a b c : Int, leI a b = true → leI b c = true → leI a c = true := fun a b c h1 h2 => by simp only [leI, decide_eq_true_eq] at *; exact Int.le_trans h1 h2
  have to : ∀ a b : Int, (leI a b || leI b a) = true := fun a b => by simp only [leI, Bool.or_eq_true, decide_eq_true_eq]; exact Int.le_total a b
  have h1 := List.pairwise_mergeSort tr to ss
  have h2 : (ss.mergeSort leI).Nodup := (List.mergeSort_perm ss leI).nodup_iff.2 hn
  exact (h1.and h2).imp (fun {a b} h => by
    obtain ⟨h3, h4⟩ := h
    simp only [leI, decide_eq_true_eq] at h3
    omega)
theorem keys_facts {H : Type} {P : Program} {k : TypeId} {R : Value → Option (DataW H × List MemPlace)} {w : World} {b n : Nat} {D : DataW H} (h : w.ownsMap P k R b n D) (hk : P.underlying k = some (.int .i64)) :
    (intKeys D).Nodup ∧ ∀ x, x ∈ intKeys D ↔ has D (.int .i64 x) = true := by
  obtain ⟨es, rfl, hpw, hkl⟩ := h.entries (int_keyed hk)
  obtain ⟨es', hD', hko⟩ := h.keysOf
  obtain rfl : es = es' := by simpa using hD'
  have hint : ∀ p ∈ es, ∃ x, p.1 = .int .i64 x := fun p hp => by
    obtain ⟨v, hv⟩ := hko p hp
    obtain ⟨x, _, hx, _⟩ := Maps.keyOf_i64 hk hv
    exact ⟨x, hx⟩
  refine ⟨?_, fun x => ?_⟩
  · show (es.map fun p => Go.intOf p.1).Nodup
    refine List.pairwise_map.2 (hpw.imp_of_mem fun {p q} hp' hq' hne e => hne ?_)
    obtain ⟨a, ha⟩ := hint p hp'
    obtain ⟨b, hb⟩ := hint q hq'
    rw [ha, hb] at e ⊢
    exact congrArg _ e
  · rw [has_eq, List.any_eq_true]
    show x ∈ es.map (fun p => Go.intOf p.1) ↔ _
    rw [List.mem_map]
    constructor
    · rintro ⟨p, hp', rfl⟩
      obtain ⟨a, ha⟩ := hint p hp'
      exact ⟨p, hp', by rw [ha]; simp [Lit.sameKey, Go.intOf]⟩
    · rintro ⟨p, hp', hs⟩
      obtain ⟨a, ha⟩ := hint p hp'
      rw [ha] at hs
      exact ⟨p, hp', by rw [ha]; simpa [Lit.sameKey, Go.intOf] using hs⟩
/-- What comes back: the keys in ascending order. -/
def KsE (w : World) (q : Int → Prop) (e : Ending) (w' : World) : Prop := ∃ v ks, e = .returned v ∧ OwnK int1 3 w' w.heap.size v ks ∧ ks.Pairwise (fun x y => x < y) ∧ (∀ x, x ∈ ks ↔ q x) ∧ Below w.heap.size w w'
theorem sorted_any {H : Type} {R : Value → Option (DataW H × List MemPlace)} (w : World) (bx b n : Nat) (D : DataW H) (hx : w.cell? ⟨bx, 0, none⟩ = some (.map (some b))) (hown : w.ownsMap Try.prog 3 R b n D) (hs : Maps.size D ≤ 1000000) :
    Calls Try.prog 53 #[.func (.func 58) #[] #[.pointer (some ⟨bx, 0, none⟩)]] w (KsE w fun x => has D (.int .i64 x) = true) := by
  refine (callsIn_wide (n := 5)).1 ?_
  have hseq : SeqGives Fence.wide 2 Try.prog 58 #[.pointer (some ⟨bx, 0, none⟩)] encZ (fun ss => ss.Perm (intKeys D)) (Maps.size D) w :=
    AnyZI.keys_gives (ρ := Try.keysL_ren) { Try.keysL with } Fence.wide _ trivial rfl (by omega) bx b n D w (lt_of_some hx) hx hown
  have cS := AnyZI.sorted_in Try.sortedL Fence.wide 5 trivial trivial trivial trivial rfl (by omega) (sorts_in _) (enters_of Try.func57 (by kernel_rfl) rfl) 58 #[.pointer (some ⟨bx, 0, none⟩)] trivial (enters_of Try.func58 (by kernel_rfl) rfl) _ _ (by unfold maxLen; omega) (by omega) _ hseq
  refine CallsIn.mono cS ?_
  rintro e w' ⟨v, ss, rfl, hp, hrow, _, hb⟩
  obtain ⟨k1, k2⟩ := keys_facts hown Try.underlying3
  have hp2 := (List.mergeSort_perm ss leI)
  refine ⟨v, ss.mergeSort leI, rfl, ?_, sort_asc (hp.nodup_iff.2 k1), fun x => by rw [hp2.mem_iff, hp.mem_iff, k2], hb⟩
  unfold OwnK
  rw [List.length_mergeSort, row_map]
  exact hrow
theorem sorted_none (w : World) (bx : Nat) (hx : w.cell? ⟨bx, 0, none⟩ = some (.map none)) :
    Calls Try.prog 53 #[.func (.func 58) #[] #[.pointer (some ⟨bx, 0, none⟩)]] w (KsE w fun _ => False) := by
  refine (callsIn_wide (n := 5)).1 ?_
  have hseq : SeqGives Fence.wide 2 Try.prog 58 #[.pointer (some ⟨bx, 0, none⟩)] encZ (fun ss : List Int => ss = []) 0 w :=
    AnyZI.keys_gives_nil (ρ := Try.keysL_ren) { Try.keysL with } Fence.wide _ trivial rfl bx w (lt_of_some hx) hx
  have cS := AnyZI.sorted_in Try.sortedL Fence.wide 5 trivial trivial trivial trivial rfl (by omega) (sorts_in _) (enters_of Try.func57 (by kernel_rfl) rfl) 58 #[.pointer (some ⟨bx, 0, none⟩)] trivial (enters_of Try.func58 (by kernel_rfl) rfl) _ 0 (Nat.zero_le _) (by omega) _ hseq
  refine CallsIn.mono cS ?_
  rintro e w' ⟨v, ss, rfl, rfl, hrow, _, hb⟩
  refine ⟨v, [], rfl, ?_, List.Pairwise.nil, fun x => by simp, hb⟩
  simp only [List.mergeSort_nil, List.map_nil, List.length_nil] at hrow
  exact hrow
end Go.Proofs.Ytmmlelmkgnhofaa
