/-
  The landed log in memory: a struct with its events in a row of its own and two maps of counts. What stays while other memory changes, what a change of one of its parts leaves, and how it reads. No conditions beyond those that each lemma states.
-/
import Derived.Test.YtlgoiccekgjhnaaImp
import Derived.Test.YtlgoiccekgjhnaaAmb
namespace Go.Proofs.Ytlgoiccekgjhnaa
open Go.ChangeShapes Go.WideShapes Go.ChangeAt Go.RowKit Go.Maps
set_option linter.unusedVariables false
set_option linter.unusedSimpArgs false
set_option maxHeartbeats 4000000
set_option maxRecDepth 100000

/-- The log at block p, of the colour k, part by part. -/
structure LgR (w : World) (c : Nat → Nat) (k p : Nat) (cap : Int) (A : Option Addr) (n cp : Nat) (last : Int) (mr mm : Option Nat) (L : List Ev5) (N1 N2 : Nat) (f g : Int → Nat) : Prop where
  col : c p = k
  blk : w.heap[p]? = some (.cells #[.int .i64 cap, .slice A n cp, .int .u64 last, .map mr, .map mm] 50 (0, 0))
  row : OwC k ev5 27 w c (.slice A n cp) L
  rec_ : Mpc w c k N1 mr f
  mis : Mpc w c k N2 mm g
  two : ∀ b, mr = some b → mm ≠ some b
section
variable {w w' w1 : World} {c c' : Nat → Nat} {j k p b : Nat} {cap last d : Int} {A A' : Option Addr} {n cp n' cp' : Nat} {mr mm : Option Nat} {L L' : List Ev5} {N1 N2 N1' N2' : Nat} {f g f' g' : Int → Nat}
theorem LgR.lt (H : LgR w c k p cap A n cp last mr mm L N1 N2 f g) : p < w.heap.size := (Array.getElem?_eq_some_iff.1 H.blk).1
theorem LgR.kept (H : LgR w c k p cap A n cp last mr mm L N1 N2 f g) (hk : Kept c j w w') (hjk : j ≠ k) (hc : ∀ g, g < w.heap.size → c' g = c g) : LgR w' c' k p cap A n cp last mr mm L N1 N2 f g :=
  ⟨(hc p H.lt).trans H.col, (hk.block p H.lt (by rw [H.col]; omega)).trans H.blk, H.row.kept hk hjk hc, H.rec_.kept hk hjk hc, H.mis.kept hk hjk hc, H.two⟩
theorem LgR.go (H : LgR w c k p cap A n cp last mr mm L N1 N2 f g) (hb : Below w.heap.size w w') (hc : ∀ g, g < w.heap.size → c' g = c g) : LgR w' c' k p cap A n cp last mr mm L N1 N2 f g := H.kept (j := k + 1) (Kept.ofBelow hb) (by omega) hc
/-- The parts lie in different blocks. -/
theorem LgR.row_p (H : LgR w c k p cap A n cp last mr mm L N1 N2 f g) : (Value.slice A n cp).ownBlock ≠ some p := fun e => by
  obtain ⟨cs, hcs⟩ := H.row.1.cells_at e
  rw [H.blk] at hcs
  cases hcs
theorem map_p {cs : Array Value} {t : TypeId} (h : w.heap[p]? = some (.cells cs t (0, 0))) (hm : Mpc w c k N1 mr f) : mr ≠ some p := fun e => by
  subst e
  obtain ⟨_, _, es, clock, h2⟩ := hm.lt
  rw [h] at h2
  cases h2
theorem map_row {v : Value} (ho : OwnK ev5 27 w 0 v L) (hm : Mpc w c k N1 mr f) (hb : mr = some b) : v.ownBlock ≠ some b := fun e => by
  subst hb
  obtain ⟨cs, hcs⟩ := ho.cells_at e
  obtain ⟨_, _, es, clock, h2⟩ := hm.lt
  rw [hcs] at h2
  cases h2
/-- The digest is stored. -/
theorem LgR.setLast (H : LgR w c k p cap A n cp last mr mm L N1 N2 f g) (d : Int) :
    LgR (w.setCell ⟨p, 2, none⟩ (.int .u64 d)) c k p cap A n cp d mr mm L N1 N2 f g ∧ Kept c k w (w.setCell ⟨p, 2, none⟩ (.int .u64 d)) := by
  have hset : w.grownBy (w.setCell ⟨p, 2, none⟩ (.int .u64 d)) (some p) := run_setAt w p 2 _
  refine ⟨⟨H.col, heap_setCell_same w p 2 _ _ _ H.blk, ⟨OwnK.kept H.row.1 hset (.inr H.row_p), H.row.2⟩, ?_, ?_, H.two⟩, Kept.ofGrown hset (fun g e => by cases e; exact H.col)⟩
  · exact H.rec_.apart hset (fun b e e' => map_p H.blk H.rec_ (e.trans e'.symm)) (fun _ _ => rfl)
  · exact H.mis.apart hset (fun b e e' => map_p H.blk H.mis (e.trans e'.symm)) (fun _ _ => rfl)
/-- A row that was appended to is stored. -/
theorem LgR.setRow (H : LgR w c k p cap A n cp last mr mm L N1 N2 f g) (ho : OwnK ev5 27 w1 0 (.slice A' n' cp') L') (hg : w.grownBy w1 (Value.slice A n cp).ownBlock) (hv : (Value.slice A' n' cp').ownBlock = (Value.slice A n cp).ownBlock ∨ (Value.slice A' n' cp').ownBlock = some w.heap.size) :
    LgR (w1.setCell ⟨p, 1, none⟩ (.slice A' n' cp')) (rc c w.heap.size k) k p cap A' n' cp' last mr mm L' N1 N2 f g ∧ Kept c k w (w1.setCell ⟨p, 1, none⟩ (.slice A' n' cp')) := by
  have hp := H.lt
  have hblk1 : w1.heap[p]? = some (.cells #[.int .i64 cap, .slice A n cp, .int .u64 last, .map mr, .map mm] 50 (0, 0)) := (hg.block p hp (fun e => H.row_p e.symm)).trans H.blk
  have hset : w1.grownBy (w1.setCell ⟨p, 1, none⟩ (.slice A' n' cp')) (some p) := run_setAt w1 p 1 _
  have hrp : (Value.slice A' n' cp').ownBlock ≠ some p := fun e => by
    rcases hv with h | h
    · exact H.row_p (h.symm.trans e)
    · rw [h] at e
      cases e
      omega
  have h1 : Mpc w1 (rc c w.heap.size k) k N1 mr f := H.rec_.apart hg (fun b e => map_row H.row.1 H.rec_ e) (fun _ h => rc_old h)
  have h2 : Mpc w1 (rc c w.heap.size k) k N2 mm g := H.mis.apart hg (fun b e => map_row H.row.1 H.mis e) (fun _ h => rc_old h)
  refine ⟨⟨by rw [rc_old hp]; exact H.col, heap_setCell_same w1 p 1 _ _ _ hblk1, ⟨OwnK.kept ho hset (.inr hrp), fun g e => ?_⟩, ?_, ?_, H.two⟩, (Kept.ofGrown hg H.row.2).trans (Kept.ofGrown hset (fun g e => by cases e; exact H.col))⟩
  · rcases hv with h | h
    · have e' := h.symm.trans e
      rw [rc_old (H.row.1.ge e').2]
      exact H.row.2 g e'
    · rw [h] at e
      cases e
      exact rc_new (Nat.le_refl _)
  · exact h1.apart hset (fun b e e' => map_p hblk1 h1 (e.trans e'.symm)) (fun _ _ => rfl)
  · exact h2.apart hset (fun b e e' => map_p hblk1 h2 (e.trans e'.symm)) (fun _ _ => rfl)
/-- Counts of records are stored. -/
theorem LgR.setRec (H : LgR w c k p cap A n cp last mr mm L N1 N2 f g) (hm : Mpc w1 (rc c w.heap.size k) k N1' (some b) f') (hg : w.grownBy w1 mr) (hv : mr = some b ∨ (mr = none ∧ w.heap.size ≤ b)) :
    LgR (w1.setCell ⟨p, 3, none⟩ (.map (some b))) (rc c w.heap.size k) k p cap A n cp last (some b) mm L N1' N2 f' g ∧ Kept c k w (w1.setCell ⟨p, 3, none⟩ (.map (some b))) := by
  have hp := H.lt
  have hblk1 : w1.heap[p]? = some (.cells #[.int .i64 cap, .slice A n cp, .int .u64 last, .map mr, .map mm] 50 (0, 0)) := (hg.block p hp (fun e => map_p H.blk H.rec_ e.symm)).trans H.blk
  have hset : w1.grownBy (w1.setCell ⟨p, 3, none⟩ (.map (some b))) (some p) := run_setAt w1 p 3 _
  have h2 : Mpc w1 (rc c w.heap.size k) k N2 mm g := H.mis.apart hg (fun b e e' => H.two b e' e) (fun _ h => rc_old h)
  have hr1 : OwnK ev5 27 w1 0 (.slice A n cp) L := by
    refine OwnK.kept H.row.1 hg ?_
    cases hq : (Value.slice A n cp).ownBlock with
    | none => exact .inl rfl
    | some q =>
      refine .inr fun e => ?_
      exact map_row H.row.1 H.rec_ e.symm hq
  refine ⟨⟨by rw [rc_old hp]; exact H.col, heap_setCell_same w1 p 3 _ _ _ hblk1, ⟨OwnK.kept hr1 hset (.inr H.row_p), fun g e => ?_⟩, ?_, ?_, ?_⟩, (Kept.ofGrown hg (fun g e => ?_)).trans (Kept.ofGrown hset (fun g e => by cases e; exact H.col))⟩
  · rw [rc_old (H.row.1.ge e).2]
    exact H.row.2 g e
  · exact hm.apart hset (fun b e e' => map_p hblk1 hm (e.trans e'.symm)) (fun _ _ => rfl)
  · exact h2.apart hset (fun b e e' => map_p hblk1 h2 (e.trans e'.symm)) (fun _ _ => rfl)
  · intro b' e e'
    cases e
    rcases hv with h | ⟨_, h⟩
    · exact H.two b h e'
    · subst e'
      have := H.mis.lt.1
      omega
  · subst e
    exact H.rec_.lt.2.1
/-- Counts of missed events are stored. -/
theorem LgR.setMis (H : LgR w c k p cap A n cp last mr mm L N1 N2 f g) (hm : Mpc w1 (rc c w.heap.size k) k N2' (some b) g') (hg : w.grownBy w1 mm) (hv : mm = some b ∨ (mm = none ∧ w.heap.size ≤ b)) :
    LgR (w1.setCell ⟨p, 4, none⟩ (.map (some b))) (rc c w.heap.size k) k p cap A n cp last mr (some b) L N1 N2' f g' ∧ Kept c k w (w1.setCell ⟨p, 4, none⟩ (.map (some b))) := by
  have hp := H.lt
  have hblk1 : w1.heap[p]? = some (.cells #[.int .i64 cap, .slice A n cp, .int .u64 last, .map mr, .map mm] 50 (0, 0)) := (hg.block p hp (fun e => map_p H.blk H.mis e.symm)).trans H.blk
  have hset : w1.grownBy (w1.setCell ⟨p, 4, none⟩ (.map (some b))) (some p) := run_setAt w1 p 4 _
  have h2 : Mpc w1 (rc c w.heap.size k) k N1 mr f := H.rec_.apart hg (fun b e e' => H.two b e e') (fun _ h => rc_old h)
  have hr1 : OwnK ev5 27 w1 0 (.slice A n cp) L := by
    refine OwnK.kept H.row.1 hg ?_
    cases hq : (Value.slice A n cp).ownBlock with
    | none => exact .inl rfl
    | some q =>
      refine .inr fun e => ?_
      exact map_row H.row.1 H.mis e.symm hq
  refine ⟨⟨by rw [rc_old hp]; exact H.col, heap_setCell_same w1 p 4 _ _ _ hblk1, ⟨OwnK.kept hr1 hset (.inr H.row_p), fun g e => ?_⟩, ?_, ?_, ?_⟩, (Kept.ofGrown hg (fun g e => ?_)).trans (Kept.ofGrown hset (fun g e => by cases e; exact H.col))⟩
  · rw [rc_old (H.row.1.ge e).2]
    exact H.row.2 g e
  · exact h2.apart hset (fun b e e' => map_p hblk1 h2 (e.trans e'.symm)) (fun _ _ => rfl)
  · exact hm.apart hset (fun b e e' => map_p hblk1 hm (e.trans e'.symm)) (fun _ _ => rfl)
  · intro b' e e'
    cases e'
    rcases hv with h | ⟨_, h⟩
    · exact H.two b e h
    · subst e
      have := H.rec_.lt.1
      omega
  · subst e
    exact H.mis.lt.2.1
end
/-- The log at block p, as it reads. -/
def Rlg (w : World) (p : Nat) (cap : Int) (L : List Ev5) (last : Int) (f g : Int → Nat) : Prop :=
  ∃ A n cp mr mm N1 N2, w.heap[p]? = some (.cells #[.int .i64 cap, .slice A n cp, .int .u64 last, .map mr, .map mm] 50 (0, 0)) ∧ Kws ev5 w w.heap.size A n cp L ∧ Mpc w (fun _ => 0) 0 N1 mr f ∧ Mpc w (fun _ => 0) 0 N2 mm g
/-- A pointer to a log, or a nil one, which reads as an empty log without capacity. -/
def Rlp (w : World) (P : Option Addr) (cap : Int) (L : List Ev5) (last : Int) (f g : Int → Nat) : Prop :=
  (∃ p, P = some ⟨p, 0, none⟩ ∧ Rlg w p cap L last f g) ∨ (P = none ∧ cap = 0 ∧ L = [] ∧ (∀ z, f z = 0) ∧ ∀ z, g z = 0)
section
variable {w w' : World} {c : Nat → Nat} {k p : Nat} {cap last : Int} {A : Option Addr} {n cp : Nat} {mr mm : Option Nat} {L : List Ev5} {N1 N2 : Nat} {f g : Int → Nat} {P : Option Addr} {z : Int}
theorem LgR.r (H : LgR w c k p cap A n cp last mr mm L N1 N2 f g) : Rlg w p cap L last f g := by
  obtain ⟨A', n', cp', e, hk⟩ := H.row.1.shape
  cases e
  exact ⟨A, n, cp, mr, mm, N1, N2, H.blk, hk, H.rec_.plain, H.mis.plain⟩
theorem Rlg.go (H : Rlg w p cap L last f g) (hb : Below w.heap.size w w') : Rlg w' p cap L last f g := by
  obtain ⟨A, n, cp, mr, mm, N1, N2, h1, h2, h3, h4⟩ := H
  exact ⟨A, n, cp, mr, mm, N1, N2, (hb.block p (Array.getElem?_eq_some_iff.1 h1).1).trans h1, h2.go hb, h3.go hb (fun _ _ => rfl), h4.go hb (fun _ _ => rfl)⟩
theorem Rlp.go (H : Rlp w P cap L last f g) (hb : Below w.heap.size w w') : Rlp w' P cap L last f g := by
  rcases H with ⟨p, e, h⟩ | h
  · exact .inl ⟨p, e, h.go hb⟩
  · exact .inr h
theorem Rlg.ptr (H : Rlg w p cap L last f g) : Rlp w (some ⟨p, 0, none⟩) cap L last f g := .inl ⟨p, rfl, H⟩
/-- The cells of a log, as a walk reads them. -/
theorem log_cells {t : TypeId} {l0 l1 l2 l3 l4 : Value} (h : w.heap[p]? = some (.cells #[l0, l1, l2, l3, l4] t (0, 0))) : w.cell? ⟨p, 0, none⟩ = some l0 ∧ w.cell? ⟨p, 1, none⟩ = some l1 ∧ w.cell? ⟨p, 2, none⟩ = some l2 ∧ w.cell? ⟨p, 3, none⟩ = some l3 ∧ w.cell? ⟨p, 4, none⟩ = some l4 :=
  ⟨cell_of_row w p 0 _ _ _ h, cell_of_row w p 1 _ _ _ h, cell_of_row w p 2 _ _ _ h, cell_of_row w p 3 _ _ _ h, cell_of_row w p 4 _ _ _ h⟩
/-- What orEmpty returns: a log that reads alike. -/
def OrE (w : World) (cap : Int) (L : List Ev5) (last : Int) (f g : Int → Nat) (e : Ending) (w' : World) : Prop := ∃ p last', e = .returned (.pointer (some ⟨p, 0, none⟩)) ∧ Rlg w' p cap L last' f g ∧ (L ≠ [] → last' = last) ∧ Below w.heap.size w w'
theorem orEmpty_any (H : Rlp w P cap L last f g) : Calls Try.prog 58 #[.pointer P] w (OrE w cap L last f g) := by
  unfold OrE
  rcases H with ⟨p, rfl, h⟩ | ⟨rfl, rfl, rfl, hf, hg⟩
  · have HH := Lib.hid h
    clear h
    go_enter Try.func58, Try.ntmps58
    go_wp2
    go_ret
    exact ⟨p, last, rfl, HH.out, fun _ => rfl, Below.refl _ _⟩
  · have HB := Lib.hid ((Below.refl w.heap.size w).alloc (Nat.le_refl _) (.cells #[.int .i64 0, .slice none 0 0, .int .u64 0, .map none, .map none] 50))
    have HF := Lib.hid hf
    have HG := Lib.hid hg
    clear hf hg
    go_enter Try.func58, Try.ntmps58
    go_wp2
    go_ret
    exact ⟨w.heap.size, 0, rfl, ⟨none, 0, 0, none, none, 0, 0, heap_alloc_new w _, Kws.none_, .nil HF.out, .nil HG.out⟩, fun h => absurd rfl h, HB.out⟩
theorem lenL_any (H : Rlp w P cap L last f g) : Calls Try.prog 25 #[.pointer P] w (Says w (.int .i64 (L.length : Int))) := by
  have HO := Lib.hid (orEmpty_any H)
  unfold OrE at HO
  clear H
  go_enter Try.func25, Try.ntmps25
  go_wp2_with fail
  refine HO.out.mono ?_
  rintro e w1 ⟨p, last', rfl, ⟨A, n, cp, mr, mm, N1, N2, hblk, hk, _, _⟩, _, hb⟩
  have HB := Lib.hid hb
  obtain ⟨c0, c1, c2, c3, c4⟩ := log_cells hblk
  obtain rfl : L.length = n := hk.len
  clear HO hblk hk hb
  go_wp2
  go_ret
  exact ⟨rfl, HB.out⟩
theorem recordsL_any (H : Rlp w P cap L last f g) (hz : Ri z) : Calls Try.prog 32 #[.pointer P, .int .i64 z] w (Says w (.int .i64 (f z : Int))) := by
  have HO := Lib.hid (orEmpty_any H)
  have HZ := Lib.hid hz
  unfold OrE at HO
  clear H hz
  go_enter Try.func32, Try.ntmps32
  go_wp2_with fail
  refine HO.out.mono ?_
  rintro e w1 ⟨p, last', rfl, ⟨A, n, cp, mr, mm, N1, N2, hblk, hk, hm1, hm2⟩, _, hb⟩
  have HB := Lib.hid hb
  obtain ⟨c0, c1, c2, c3, c4⟩ := log_cells hblk
  have hr := hm1.look HZ.out
  generalize (f z : Int) = y at *
  clear HO hblk hk hb hm1 hm2
  go_wp2
  go_ret
  exact ⟨rfl, HB.out⟩
theorem missedL_any (H : Rlp w P cap L last f g) (hz : Ri z) : Calls Try.prog 46 #[.pointer P, .int .i64 z] w (Says w (.int .i64 (g z : Int))) := by
  have HO := Lib.hid (orEmpty_any H)
  have HZ := Lib.hid hz
  unfold OrE at HO
  clear H hz
  go_enter Try.func46, Try.ntmps46
  go_wp2_with fail
  refine HO.out.mono ?_
  rintro e w1 ⟨p, last', rfl, ⟨A, n, cp, mr, mm, N1, N2, hblk, hk, hm1, hm2⟩, _, hb⟩
  have HB := Lib.hid hb
  obtain ⟨c0, c1, c2, c3, c4⟩ := log_cells hblk
  have hr := hm2.look HZ.out
  generalize (g z : Int) = y at *
  clear HO hblk hk hb hm1 hm2
  go_wp2
  go_ret
  exact ⟨rfl, HB.out⟩
theorem digestL_any (H : Rlp w P cap L last f g) (hl : L ≠ [] → last = lgD start L) : Calls Try.prog 26 #[.pointer P] w (Says w (.int .u64 (lgD start L))) := by
  have HL := Lib.hid (lenL_any H)
  have HN := Lib.hid (fun W => sum_any none 0 0 [] W (B := 0) Row.none_ (fun x hx => by cases hx) (by omega))
  rw [fnv_nil] at HN
  unfold Num at HN
  by_cases h0 : L = []
  · subst h0
    rw [lgD_nil]
    generalize start = st at *
    simp only [List.length_nil] at HL
    clear H hl
    go_enter Try.func26, Try.ntmps26
    go_wp2_with fail
    refine HL.out.mono ?_
    rintro e w1 ⟨rfl, hb⟩
    have HB := Lib.hid hb
    clear HL hb
    go_wp2_with fail
    refine (HN.out w1).mono ?_
    rintro e w2 ⟨rfl, hww⟩
    subst hww
    go_wp2
    go_ret
    exact ⟨rfl, HB.out⟩
  · rcases H with ⟨p, rfl, h⟩ | ⟨_, _, h, _⟩
    · have hlen : ((L.length : Int) == 0) = false := by
        have : L.length ≠ 0 := fun e => h0 (List.eq_nil_of_length_eq_zero e)
        simp
        omega
      rw [← hl h0]
      have HH := Lib.hid h
      generalize (L.length : Int) = y at *
      clear h hl
      go_enter Try.func26, Try.ntmps26
      go_wp2_with fail
      refine HL.out.mono ?_
      rintro e w1 ⟨rfl, hb⟩
      obtain ⟨A, n, cp, mr, mm, N1, N2, hblk, hk, hm1, hm2⟩ := HH.out.go hb
      have HB := Lib.hid hb
      obtain ⟨c0, c1, c2, c3, c4⟩ := log_cells hblk
      clear HL hb hblk hk hm1 hm2
      go_wp2
      go_ret
      exact ⟨rfl, HB.out⟩
    · exact absurd h h0
end
end Go.Proofs.Ytlgoiccekgjhnaa
