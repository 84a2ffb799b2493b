/-
  Contracts of the landed ledger's New, Lend, remove, Release, EndObject and EndHolder. Conditions: at most a hundred thousand borrows.
-/
import Derived.Test.YtmmlelmkgnhofaaLdb
import Derived.Test.YtmmlelmkgnhofaaSor
namespace Go.Proofs.Ytmmlelmkgnhofaa
open Go.ChangeShapes Go.WideShapes Go.ChangeAt Go.RowKit
open Go.Maps (Keyed int_keyed)
set_option linter.unusedVariables false
set_option linter.unusedSimpArgs false
set_option maxHeartbeats 4000000
set_option maxRecDepth 100000

/-- What a call leaves that writes a ledger of colour k. -/
def LdE (w : World) (c : Nat → Nat) (k p : Nat) (r : Value) (L' : List Bo) (e : Ending) (w' : World) : Prop := e = .returned r ∧ Led w' (rc c w.heap.size k) k p L' ∧ Kept c k w w'
theorem size_le {w : World} {c : Nat → Nat} {k b n : Nat} {D : DataW Value} {sl : Int → Value} {L : List Bo} (h : w.ownsMap Try.prog 3 tk b n D) (S : Slm w c k D sl L) : Maps.size D ≤ L.length := by
  obtain ⟨k1, k2⟩ := keys_facts h Try.underlying3
  have hwf := intKeys_wf h Try.underlying3
  have e : (intKeys D).length = Maps.size D := by
    obtain ⟨es, rfl⟩ := h.isMap
    show (es.map _).length = es.length
    rw [List.length_map]
  have e2 : (L.map Bo.o).length = L.length := List.length_map _
  rw [← e, ← e2]
  refine len_sub k1 fun x hx => ?_
  have h1 := (S.has x (hwf x hx)).1 ((k2 x).1 hx)
  cases ho : ofL x L with
  | nil => exact absurd ho h1
  | cons z r =>
    have hz : z ∈ ofL x L := by rw [ho]; simp
    obtain ⟨h3, h4⟩ := mem_of.1 hz
    exact List.mem_map.2 ⟨z, h3, h4⟩
theorem own_map {w : World} {b n : Nat} {D : DataW Value} (h : w.ownsMap Try.prog 3 tk b n D) : w.ownsMap Try.prog 3 tk b (Maps.size D) D := by
  obtain ⟨es, clock, hb, F, hs, rfl⟩ := h
  exact ⟨es, clock, hb, F, by simp [Maps.size, length_sorted], rfl⟩
section
variable {w w' : World} {c : Nat → Nat} {k p b n N : Nat} {D : DataW Value} {sl : Int → Value} {L : List Bo} {o h m : Int}
theorem own_ne_map {v : Value} {l : List Bo} (h : w.ownsMap Try.prog 3 tk b n D) (ho : OwnK bo4 47 w 0 v l) : v.ownBlock ≠ some b := fun e => by
  obtain ⟨cs, hcs⟩ := ho.cells_at e
  obtain ⟨es, clock, hb, _⟩ := h
  rw [hb] at hcs
  cases hcs
theorem led_ne {mv : Option Nat} {v : Value} {l : List Bo} (h : w.heap[p]? = some (.cells #[.map mv] 54 (0, 0))) (ho : OwnK bo4 47 w 0 v l) : v.ownBlock ≠ some p := fun e => by
  obtain ⟨cs, hcs⟩ := ho.cells_at e
  rw [h] at hcs
  injection hcs with h1
  injection h1 with h2 h3 h4
  exact absurd h3 (by decide)
/-- A ledger without borrows: a new block with a nil map. -/
theorem Led.made (w : World) (c : Nat → Nat) (k : Nat) : Led (w.alloc (.cells #[.map none] 54)) (rc c w.heap.size k) k w.heap.size [] :=
  ⟨rc_new (Nat.le_refl _), none, heap_alloc_new w _, .inl ⟨rfl, rfl⟩⟩
theorem newL_any (w : World) (c : Nat → Nat) (k : Nat) : Calls Try.prog 10 #[] w fun e w' => ∃ p, e = .returned (.pointer (some ⟨p, 0, none⟩)) ∧ w.heap.size ≤ p ∧ Led w' (rc c w.heap.size k) k p [] ∧ Below w.heap.size w w' := by
  have HM := Lib.hid (Led.made w c k)
  go_enter Try.func10, Try.ntmps10
  go_wp2
  go_ret
  exact ⟨_, rfl, Nat.le_refl _, HM.out, (Below.refl _ _).alloc (Nat.le_refl _) _⟩
theorem Kept.then {w1 w2 : World} {c' : Nat → Nat} (h : Kept c k w w1) (hc : ∀ g, g < w.heap.size → c' g = c g) (h' : Kept c' k w1 w2) : Kept c k w w2 :=
  ⟨h'.os.trans h.os, h'.tape.trans h.tape, h'.output.trans h.output, Nat.le_trans h.size h'.size, fun g hg hk => (h'.block g (Nat.lt_of_lt_of_le hg h.size) (by rw [hc g hg]; exact hk)).trans (h.block g hg hk)⟩
theorem rc_rc {n n1 : Nat} (h : n ≤ n1) : rc (rc c n k) n1 k = rc c n k := by
  funext g
  rcases Nat.lt_or_ge g n1 with h1 | h1
  · rw [rc_old h1]
  · rw [rc_new h1, rc_new (by omega)]
/-- What a call leaves, seen from an earlier world. -/
theorem LdE.later {w1 w2 : World} {r : Value} {L' : List Bo} {e : Ending} (hk : Kept c k w w1) (h : LdE w1 (rc c w.heap.size k) k p r L' e w2) : LdE w c k p r L' e w2 := by
  obtain ⟨h1, h2, h3⟩ := h
  rw [rc_rc hk.size] at h2
  exact ⟨h1, h2, hk.then (fun g hg => rc_old hg) h3⟩
theorem Led.later {w1 : World} (H : Led w c k p L) (hb : Below w.heap.size w w1) : Led w1 (rc c w.heap.size k) k p L := H.kept (j := k + 1) (Kept.ofBelow hb) (by omega) (fun g hg => rc_old hg)
/-- A change at one object: of its row, then of the map. -/
theorem Led.upd {w1 w2 : World} {n2 : Nat} {D' : DataW Value} {v' : Value} {L' : List Bo} (hcp : c p = k) (hp : w.heap[p]? = some (.cells #[.map (some b)] 54 (0, 0))) (hcb : c b = k) (hown : w.ownsMap Try.prog 3 tk b n D) (S : Slm w c k D sl L) (ho : Ri o)
    (g1 : w.grownBy w1 (sl o).ownBlock) (g2 : w1.grownBy w2 (some b)) (hown2 : w2.ownsMap Try.prog 3 tk b n2 D') (hv : OwnK bo4 47 w2 0 v' (ofL o L')) (hb : v'.ownBlock = (sl o).ownBlock ∨ ∀ g, v'.ownBlock = some g → w.heap.size ≤ g)
    (hL : ∀ o', o' ≠ o → ofL o' L' = ofL o' L) (hD1 : Maps.has D' (.int .i64 o) = true ↔ ofL o L' ≠ []) (hD2 : D'.atKey (.int .i64 o) (.held (.slice none 0 0)) = .held v')
    (hD3 : ∀ o', o' ≠ o → Maps.has D' (.int .i64 o') = Maps.has D (.int .i64 o') ∧ D'.atKey (.int .i64 o') (.held (.slice none 0 0)) = D.atKey (.int .i64 o') (.held (.slice none 0 0))) (hri : ∀ x ∈ L', Ri x.o) :
    Led w2 (rc c w.heap.size k) k p L' ∧ Kept c k w w2 := by
  have hpl : p < w.heap.size := (Array.getElem?_eq_some_iff.1 hp).1
  have hbl := hown.lt
  have hSo := S.own o ho
  have hbp : b ≠ p := fun e => by
    obtain ⟨es, clock, h1, _⟩ := hown
    rw [e, hp] at h1
    cases h1
  have hp1 := (g1.block p hpl (fun e => led_ne hp hSo.1 e.symm)).trans hp
  have hp2 := (g2.block p (Nat.lt_of_lt_of_le hpl g1.size) (fun e => hbp (Option.some.inj e).symm)).trans hp1
  refine ⟨⟨by rw [rc_old hpl]; exact hcp, some b, hp2, .inr ⟨b, rfl, by rw [rc_old hbl]; exact hcb, n2, D', _, hown2, S.upd ho (Nat.le_trans g1.size g2.size) (fun g cs hg hne => ?_) (fun g hg => rc_old hg) ⟨hv, fun g hg => ?_⟩ hb hL hD1 hD2 hD3 hri⟩⟩, ?_⟩
  · have hgl := (Array.getElem?_eq_some_iff.1 hg).1
    refine (g2.block g (Nat.lt_of_lt_of_le hgl g1.size) (fun e => ?_)).trans ((g1.block g hgl (fun e => hne e.symm)).trans hg)
    obtain rfl := Option.some.inj e
    obtain ⟨es, clock, h1, _⟩ := hown
    rw [hg] at h1
    cases h1
  · rcases hb with hb | hb
    · rw [hb] at hg
      rw [rc_old (hSo.1.ge hg).2]
      exact hSo.2 g hg
    · exact rc_new (hb g hg)
  · exact (Kept.ofGrown g1 hSo.2).trans (Kept.ofGrown g2 (fun g e => by cases e; exact hcb))
/-- A nil map is replaced by an empty one. -/
theorem Led.mapped (hcp : c p = k) (hp : w.heap[p]? = some (.cells #[.map none] 54 (0, 0))) :
    ∃ sl, ((w.alloc (.map #[] 0)).setCell ⟨p, 0, none⟩ (.map (some w.heap.size))).heap[p]? = some (.cells #[.map (some w.heap.size)] 54 (0, 0)) ∧ rc c w.heap.size k w.heap.size = k ∧
      ((w.alloc (.map #[] 0)).setCell ⟨p, 0, none⟩ (.map (some w.heap.size))).ownsMap Try.prog 3 tk w.heap.size 0 (.map []) ∧ Slm ((w.alloc (.map #[] 0)).setCell ⟨p, 0, none⟩ (.map (some w.heap.size))) (rc c w.heap.size k) k (.map []) sl [] ∧
      Kept c k w ((w.alloc (.map #[] 0)).setCell ⟨p, 0, none⟩ (.map (some w.heap.size))) := by
  have hpl : p < w.heap.size := (Array.getElem?_eq_some_iff.1 hp).1
  have h1 := World.ownsMap_made w Try.prog 3 tk
  have h2 : (w.alloc (.map #[] 0)).heap[p]? = some (.cells #[.map none] 54 (0, 0)) := (Below.heap_alloc w _ p hpl).trans hp
  refine ⟨fun _ => .slice none 0 0, heap_setCell_same _ p 0 _ _ _ h2, rc_new (Nat.le_refl _), h1.setCell (by simp only; omega) _, ⟨by simp, fun o ho => ?_, fun o ho => rfl, fun o ho => ⟨OwnK.nil _ _ _ _, fun g hg => by cases hg⟩, fun o o' g _ _ hg => by cases hg⟩, ?_⟩
  · simp [Maps.has, ofL]
  · exact (Kept.ofBelow ((Below.refl _ _).alloc (Nat.le_refl _) _)).trans (Kept.ofGrown (run_setOwn _ p _) (fun g e => by cases e; exact hcp))
end
end Go.Proofs.Ytmmlelmkgnhofaa
