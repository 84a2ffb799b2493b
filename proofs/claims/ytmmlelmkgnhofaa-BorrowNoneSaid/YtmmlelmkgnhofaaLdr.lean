/-
  Contracts of the landed ledger's lists, lentAs, ownerAccess, Holds, Of and Access. Conditions: at most a million borrows.
-/
import Derived.Test.YtmmlelmkgnhofaaLdg
namespace Go.Proofs.Ytmmlelmkgnhofaa
open Go.ChangeShapes Go.WideShapes Go.ChangeAt Go.RowKit
set_option linter.unusedVariables false
set_option linter.unusedSimpArgs false
set_option maxHeartbeats 4000000
set_option maxRecDepth 100000

section
variable {w : World} {c : Nat → Nat} {k N : Nat} {q : Option Addr} {L : List Bo} {o p : Int}
theorem lists_any (H : Ldq w c k q L) : ∃ mv, Mv w c k mv L ∧ ∀ W, (∀ a v, w.cell? a = some v → W.cell? a = some v) → Calls Try.prog 33 #[.pointer q] W fun e w' => e = .returned (.map mv) ∧ W = w' := by
  rcases H with ⟨rfl, rfl⟩ | ⟨p, rfl, H⟩
  · refine ⟨none, .inl ⟨rfl, rfl⟩, fun W _ => ?_⟩
    go_enter Try.func33, Try.ntmps33
    go_wp2
    go_ret
    exact ⟨rfl, rfl⟩
  · obtain ⟨mv, h1, _, h2⟩ := H.cells
    refine ⟨mv, h2, fun W hW => ?_⟩
    have h3 := hW _ _ h1
    clear h1 h2 H hW
    go_enter Try.func33, Try.ntmps33
    go_wp2
    go_ret
    exact ⟨rfl, rfl⟩
theorem below_cells {w W : World} (h : Below w.heap.size w W) : ∀ a v, w.cell? a = some v → W.cell? a = some v := fun a v hv => by
  have : a.block < w.heap.size := by
    rcases Nat.lt_or_ge a.block w.heap.size with h1 | h1
    · exact h1
    · simp [World.cell?, Array.getElem?_eq_none h1] at hv
  exact (h.cell this).trans hv
/-- The first one's mode, of the borrows of an object. -/
theorem md_at (o : Int) : (ofL o L = [] ∧ md o L = 0) ∨ ∃ x, (ofL o L)[0]? = some x ∧ x.m = md o L := by
  unfold md
  cases ofL o L with
  | nil => exact .inl ⟨rfl, rfl⟩
  | cons x r => exact .inr ⟨x, rfl, rfl⟩
theorem lentAs_any (A : Option Addr) (n cap : Nat) (l : List Bo) (m y : Int) (w : World) (h : Kws bo4 w w.heap.size A n cap l) (hy : (l = [] ∧ y = 0) ∨ ∃ x, l[0]? = some x ∧ x.m = y) (hm : m ≠ 0) :
    Calls Try.prog 34 #[.slice A n cap, .int .i64 m] w fun e w' => e = .returned (.bool (decide (y = m))) ∧ w = w' := by
  have hsm := h.small
  have hcap := h.cap
  unfold maxLen at hsm
  rcases hy with ⟨rfl, rfl⟩ | ⟨x, hx, rfl⟩
  · obtain rfl : n = 0 := h.len.symm
    have hd : decide (0 = m) = false := decide_eq_false (fun e => hm e.symm)
    rw [hd]
    clear h hd
    go_enter Try.func34, Try.ntmps34
    go_wp2
    go_ret
    exact ⟨rfl, rfl⟩
  · have hn : 0 < n := by have := (List.getElem?_eq_some_iff.1 hx).1; have := h.len; omega
    obtain ⟨b, ob, z, hz, rfl, hb, e0, e1, e2, e3⟩ := h.bo hn
    rw [hx] at hz
    obtain rfl := Option.some.inj hz
    have hn' : (0 : Int) < (n : Int) := by omega
    have hd : decide ((0 : Int) < (n : Int)) = true := decide_eq_true hn'
    rw [Nat.zero_mul] at e0 e1 e2 e3
    clear h hx
    by_cases he : x.m = m
    · have h1 : (x.m == m) = true := by simpa using he
      rw [decide_eq_true he]
      clear he
      go_enter Try.func34, Try.ntmps34
      go_wp2
      go_ret
      exact ⟨rfl, rfl⟩
    · have h1 : (x.m == m) = false := by simpa using he
      rw [decide_eq_false he]
      clear he
      go_enter Try.func34, Try.ntmps34
      go_wp2
      go_ret
      exact ⟨rfl, rfl⟩
theorem ownerAccess_any (A : Option Addr) (n cap : Nat) (a : Int) (w : World) (h : Kws bo4 w w.heap.size A n cap (ofL o L)) :
    Calls Try.prog 32 #[.slice A n cap, .int .i64 a] w fun e w' => e = .returned (.int .i64 (ownE o a L)) ∧ w = w' := by
  have H1 := Lib.hid (lentAs_any A n cap _ 2 _ w h (md_at o) (by omega))
  have H2 := Lib.hid (lentAs_any A n cap _ 1 _ w h (md_at o) (by omega))
  clear h
  unfold ownE
  generalize md o L = y at *
  by_cases h2 : y = 2
  · subst h2
    rw [if_pos (.inl rfl)]
    go_enter Try.func32, Try.ntmps32
    go_wp2_with fail
    refine H1.out.mono ?_
    rintro e w1 ⟨rfl, rfl⟩
    clear H1 H2
    go_wp2
    go_ret
    exact ⟨rfl, rfl⟩
  · rw [decide_eq_false h2] at H1
    by_cases h1 : y = 1
    · subst h1
      clear h2
      by_cases ha : a = 2
      · subst ha
        rw [if_pos (by omega)]
        go_enter Try.func32, Try.ntmps32
        go_wp2_with fail
        refine H1.out.mono ?_
        rintro e w1 ⟨rfl, rfl⟩
        go_wp2_with fail
        refine H2.out.mono ?_
        rintro e w1 ⟨rfl, rfl⟩
        clear H1 H2
        go_wp2
        go_ret
        exact ⟨rfl, rfl⟩
      · have ha2 : (a == 2) = false := by simpa using ha
        by_cases hb : a = 3
        · subst hb
          rw [if_pos (by omega)]
          go_enter Try.func32, Try.ntmps32
          go_wp2_with fail
          refine H1.out.mono ?_
          rintro e w1 ⟨rfl, rfl⟩
          go_wp2_with fail
          refine H2.out.mono ?_
          rintro e w1 ⟨rfl, rfl⟩
          clear H1 H2
          go_wp2
          go_ret
          exact ⟨rfl, rfl⟩
        · have hb2 : (a == 3) = false := by simpa using hb
          rw [if_neg (by omega)]
          clear ha hb
          go_enter Try.func32, Try.ntmps32
          go_wp2_with fail
          refine H1.out.mono ?_
          rintro e w1 ⟨rfl, rfl⟩
          go_wp2_with fail
          refine H2.out.mono ?_
          rintro e w1 ⟨rfl, rfl⟩
          clear H1 H2
          go_wp2
          go_ret
          exact ⟨rfl, rfl⟩
    · rw [decide_eq_false h1] at H2
      rw [if_neg (by omega)]
      clear h1 h2
      go_enter Try.func32, Try.ntmps32
      go_wp2_with fail
      refine H1.out.mono ?_
      rintro e w1 ⟨rfl, rfl⟩
      go_wp2_with fail
      refine H2.out.mono ?_
      rintro e w1 ⟨rfl, rfl⟩
      clear H1 H2
      go_wp2
      go_ret
      exact ⟨rfl, rfl⟩
theorem of_len : (ofL o L).length ≤ L.length := List.length_filter_le _ _
theorem of_any (H : Ldq w c k q L) (ho : Ri o) (hn : L.length ≤ 1000000) : Calls Try.prog 26 #[.pointer q, .int .i64 o] w (MkB w (ofL o L)) := by
  obtain ⟨mv, hm, hl⟩ := lists_any H
  obtain ⟨A, n, cap, hr, hx⟩ := hm.look ho
  obtain ⟨A', n', cap', e, hk⟩ := hx.1.shape
  cases e
  have HL := Lib.hid (hl w (fun _ _ h => h))
  have hlen := hk.len
  have HC := Lib.hid (clone_any A n cap _ w hk (by have := of_len (o := o) (L := L); omega))
  unfold MkB at HC ⊢
  clear H hm hl hx hk hlen
  go_enter Try.func26, Try.ntmps26
  go_wp2_with fail
  refine HL.out.mono ?_
  rintro e w1 ⟨rfl, rfl⟩
  go_wp2_with fail
  refine HC.out.mono ?_
  rintro e w2 ⟨v, rfl, ho, hb⟩
  have HO := Lib.hid ho
  have HB := Lib.hid hb
  clear ho hb HC HL hr
  go_wp2
  go_ret
  exact ⟨_, rfl, HO.out, HB.out⟩
theorem set4 {w : World} {b : Nat} {a0 a1 a2 a3 : Value} {t : TypeId} (h : w.heap[b]? = some (.cells #[a0, a1, a2, a3] t (0, 0))) (v0 v1 v2 v3 : Value) :
    ((((w.setCell ⟨b, 0, none⟩ v0).setCell ⟨b, 1, none⟩ v1).setCell ⟨b, 2, none⟩ v2).setCell ⟨b, 3, none⟩ v3).heap[b]? = some (.cells #[v0, v1, v2, v3] t (0, 0)) :=
  heap_setCell_same _ b 3 _ _ v3 (heap_setCell_same _ b 2 _ _ v2 (heap_setCell_same _ b 1 _ _ v1 (heap_setCell_same w b 0 _ _ v0 h)))
/-- What Holds says. -/
def boV (r : Option Bo) : Bo := match r with
  | none => ⟨0, 0, 0, 0⟩
  | some z => z
def boA (z : Bo) : Value := .agg #[.int .i64 z.o, .int .i64 z.h, .int .i64 z.m, .int .i64 z.c]
def HoE (w : World) (r : Option Bo) (e : Ending) (w' : World) : Prop := e = .returned (.tuple #[boA (boV r), .bool r.isSome]) ∧ Below w.heap.size w w'
theorem holds_any (H : Ldq w c k q L) (ho : Ri o) (hL : Srt L) (hn : L.length ≤ 1000000) : Calls Try.prog 27 #[.pointer q, .int .i64 o, .int .i64 p] w (HoE w (hasL o p L)) := by
  have hb0 : Below w.heap.size w (w.alloc (.cells #[.int .i64 0, .int .i64 0, .int .i64 0, .int .i64 0] 47)) := (Below.refl _ _).alloc (Nat.le_refl _) _
  obtain ⟨mv, hm, hl⟩ := lists_any H
  obtain ⟨A, n, cap, hr, hx⟩ := (hm.go hb0).look ho
  obtain ⟨A', n', cap', e, hk⟩ := hx.1.shape
  cases e
  have HL := Lib.hid (hl _ (below_cells hb0))
  have hlen := hk.len
  have hcap := hk.cap
  have hsm := hk.small
  unfold maxLen at hsm
  have HF := Lib.hid (find_any A n cap _ p _ hk (by have := of_len (o := o) (L := L); omega) (hL.hs o))
  have HK := Lib.hid hk
  have HB0 := Lib.hid hb0
  have HS := Lib.hid hL
  have HX : Hid ((w.alloc (.cells #[.int .i64 0, .int .i64 0, .int .i64 0, .int .i64 0] 47)).heap[w.heap.size]? = some (.cells #[.int .i64 0, .int .i64 0, .int .i64 0, .int .i64 0] 47 (0, 0))) := Lib.hid (heap_alloc_new w _)
  have hbx : (w.alloc (.cells #[.int .i64 0, .int .i64 0, .int .i64 0, .int .i64 0] 47)).heap.size = w.heap.size + 1 := by simp
  unfold FoundB at HF
  unfold HoE
  clear H hm hl hx hk hlen hb0
  go_enter Try.func27, Try.ntmps27
  go_wp2_with fail
  refine HL.out.mono ?_
  rintro e w1 ⟨rfl, rfl⟩
  go_wp2_with fail
  generalize w.alloc (.cells #[.int .i64 0, .int .i64 0, .int .i64 0, .int .i64 0] 47) = w1 at *
  refine HF.out.mono ?_
  rintro e w2 ⟨i, f, rfl, hlb, hf, hb⟩
  have HHA := Lib.hid (has_at HS.out hlb)
  have HB := Lib.hid hb
  have HX2 : Hid (w2.heap[w.heap.size]? = some (.cells #[.int .i64 0, .int .i64 0, .int .i64 0, .int .i64 0] 47 (0, 0))) := Lib.hid ((hb.block _ (by omega)).trans HX.out)
  have hlt2 : w.heap.size < w2.heap.size := (Array.getElem?_eq_some_iff.1 HX2.out).1
  have c0 : w2.cell? ⟨w.heap.size, 0, none⟩ = some (.int .i64 0) := cell_of_row w2 _ 0 _ _ _ HX2.out
  have c1 : w2.cell? ⟨w.heap.size, 1, none⟩ = some (.int .i64 0) := cell_of_row w2 _ 1 _ _ _ HX2.out
  have c2 : w2.cell? ⟨w.heap.size, 2, none⟩ = some (.int .i64 0) := cell_of_row w2 _ 2 _ _ _ HX2.out
  have c3 : w2.cell? ⟨w.heap.size, 3, none⟩ = some (.int .i64 0) := cell_of_row w2 _ 3 _ _ _ HX2.out
  have f0 := frozen_of_row w2 w.heap.size 0 _ _ HX2.out
  have f1 := frozen_of_row w2 w.heap.size 1 _ _ HX2.out
  have f2 := frozen_of_row w2 w.heap.size 2 _ _ HX2.out
  have f3 := frozen_of_row w2 w.heap.size 3 _ _ HX2.out
  have HBB : Hid (Below w.heap.size w w2) := Lib.hid (Below.then HB0.out hb (by omega))
  clear HF hb HX
  cases f with
  | false =>
    have HN : Hid (hasL o p L = none) := Lib.hid (by
      rw [HHA.out]
      cases hz : (ofL o L)[i]? with
      | none => rfl
      | some z =>
        rw [Option.filter_some, if_neg]
        intro e
        have := hf.2 ⟨z, hz, by simpa using e⟩
        cases this)
    clear hf hlb
    have HW4 := Lib.hid (set4 HX2.out (.int .i64 0) (.int .i64 0) (.int .i64 0) (.int .i64 0))
    have HB4 := Lib.hid ((((HBB.out.setCell (p := ⟨w.heap.size, 0, none⟩) (Nat.le_refl _) (.int .i64 0)).setCell (p := ⟨w.heap.size, 1, none⟩) (Nat.le_refl _) (.int .i64 0)).setCell (p := ⟨w.heap.size, 2, none⟩) (Nat.le_refl _) (.int .i64 0)).setCell (p := ⟨w.heap.size, 3, none⟩) (Nat.le_refl _) (.int .i64 0))
    clear HHA HX2 HBB HB HK hlt2
    go_wp2
    clear c0 c1 c2 c3 f0 f1 f2 f3
    generalize (((w2.setCell _ _).setCell _ _).setCell _ _).setCell _ _ = w4 at *
    have k0 := cell_of_row w4 _ 0 _ _ _ HW4.out
    have k1 := cell_of_row w4 _ 1 _ _ _ HW4.out
    have k2 := cell_of_row w4 _ 2 _ _ _ HW4.out
    have k3 := cell_of_row w4 _ 3 _ _ _ HW4.out
    refine bodyPost_ret (v := .tuple #[.agg #[.int .i64 0, .int .i64 0, .int .i64 0, .int .i64 0], .bool false]) (by simp [results, Try.results27, go_sem, k0, k1, k2, k3]) rfl ?_
    rw [HN.out]
    exact ⟨rfl, HB4.out⟩
  | true =>
    obtain ⟨z, hz, hzp⟩ := hf.1 rfl
    have HN : Hid (hasL o p L = some z) := Lib.hid (by
      rw [HHA.out, hz, Option.filter_some, if_pos (by simpa using hzp)])
    have hil : i < n := by have := (List.getElem?_eq_some_iff.1 hz).1; have := HK.out.len; omega
    obtain ⟨b, ob, z', hz', rfl, hb', e0, e1, e2, e3⟩ := (HK.out.go HB.out).bo hil
    rw [hz] at hz'
    obtain rfl := Option.some.inj hz'
    have hi0 : (0 : Int) ≤ (i : Int) := by omega
    have hi1 : (i : Int) < (n : Int) := by omega
    clear hf hlb hz HHA
    have HW4 := Lib.hid (set4 HX2.out (.int .i64 z.o) (.int .i64 z.h) (.int .i64 z.m) (.int .i64 z.c))
    have HB4 := Lib.hid ((((HBB.out.setCell (p := ⟨w.heap.size, 0, none⟩) (Nat.le_refl _) (.int .i64 z.o)).setCell (p := ⟨w.heap.size, 1, none⟩) (Nat.le_refl _) (.int .i64 z.h)).setCell (p := ⟨w.heap.size, 2, none⟩) (Nat.le_refl _) (.int .i64 z.m)).setCell (p := ⟨w.heap.size, 3, none⟩) (Nat.le_refl _) (.int .i64 z.c))
    clear HX2 HBB HB HK hlt2 hzp
    go_wp2
    clear c0 c1 c2 c3 f0 f1 f2 f3 e0 e1 e2 e3
    generalize (((w2.setCell _ _).setCell _ _).setCell _ _).setCell _ _ = w4 at *
    have k0 := cell_of_row w4 _ 0 _ _ _ HW4.out
    have k1 := cell_of_row w4 _ 1 _ _ _ HW4.out
    have k2 := cell_of_row w4 _ 2 _ _ _ HW4.out
    have k3 := cell_of_row w4 _ 3 _ _ _ HW4.out
    refine bodyPost_ret (v := .tuple #[boA z, .bool true]) (by simp [results, Try.results27, go_sem, k0, k1, k2, k3, boA]) rfl ?_
    rw [HN.out]
    exact ⟨rfl, HB4.out⟩
theorem access_bad (b : Bool) (a : Int) (ha : ¬ (1 ≤ a ∧ a ≤ 4)) : Calls Try.prog 14 #[.pointer q, .int .i64 o, .int .i64 p, .bool b, .int .i64 a] w fun e w' => e = .returned (.int .i64 1) ∧ Below w.heap.size w w' := by
  have h1 : (a == 1) = false := by simp; omega
  have h2 : (a == 2) = false := by simp; omega
  have h3 : (a == 3) = false := by simp; omega
  have h4 : (a == 4) = false := by simp; omega
  clear ha
  go_enter Try.func14, Try.ntmps14
  go_wp2
  go_ret
  exact ⟨rfl, Below.refl _ _⟩
theorem access_own (a : Int) (ha : 1 ≤ a ∧ a ≤ 4) (H : Ldq w c k q L) (ho : Ri o) : Calls Try.prog 14 #[.pointer q, .int .i64 o, .int .i64 p, .bool true, .int .i64 a] w fun e w' => e = .returned (.int .i64 (ownE o a L)) ∧ Below w.heap.size w w' := by
  obtain ⟨mv, hm, hl⟩ := lists_any H
  obtain ⟨A, n, cap, hr, hx⟩ := hm.look ho
  obtain ⟨A', n', cap', e, hk⟩ := hx.1.shape
  cases e
  have HL := Lib.hid (hl w (fun _ _ h => h))
  have HO := Lib.hid (ownerAccess_any A n cap a w hk)
  generalize ownE o a L = y at *
  clear H hm hl hx hk
  obtain rfl | rfl | rfl | rfl : a = 1 ∨ a = 2 ∨ a = 3 ∨ a = 4 := by omega
  all_goals
    clear ha
    go_enter Try.func14, Try.ntmps14
    go_wp2_with fail
    refine HL.out.mono ?_
    rintro e w1 ⟨rfl, rfl⟩
    go_wp2_with fail
    refine HO.out.mono ?_
    rintro e w1 ⟨rfl, rfl⟩
    clear HL HO
    go_wp2
    go_ret
    exact ⟨rfl, Below.refl _ _⟩
theorem access_oth (a : Int) (ha : 1 ≤ a ∧ a ≤ 4) (H : Ldq w c k q L) (ho : Ri o) (hL : Srt L) (hn : L.length ≤ 1000000) : Calls Try.prog 14 #[.pointer q, .int .i64 o, .int .i64 p, .bool false, .int .i64 a] w fun e w' => e = .returned (.int .i64 (othE o p a L)) ∧ Below w.heap.size w w' := by
  have HH := Lib.hid (holds_any (p := p) H ho hL hn)
  unfold HoE at HH
  have HE : Hid (othE o p a L = match hasL o p L with | none => 13 | some b => if a = 3 ∨ a = 4 then 13 else if b.m = 1 ∧ a = 2 then 14 else 0) := Lib.hid rfl
  generalize othE o p a L = y at *
  generalize hasL o p L = r at *
  clear H hL
  cases r with
  | none =>
    obtain rfl : y = 13 := HE.out
    clear HE
    simp only [boV, boA, Option.isSome_none] at HH
    obtain rfl | rfl | rfl | rfl : a = 1 ∨ a = 2 ∨ a = 3 ∨ a = 4 := by omega
    all_goals
      clear ha
      go_enter Try.func14, Try.ntmps14
      go_wp2_with fail
      refine HH.out.mono ?_
      rintro e w1 ⟨rfl, hb⟩
      have HB := Lib.hid (hb.alloc hb.size (.cells #[.int .i64 0, .int .i64 0, .int .i64 0, .int .i64 0] 47))
      clear HH hb
      go_wp2
      go_ret
      exact ⟨rfl, HB.out⟩
  | some z =>
    simp only at HE
    simp only [boV, boA, Option.isSome_some] at HH
    obtain rfl | rfl | rfl | rfl : a = 1 ∨ a = 2 ∨ a = 3 ∨ a = 4 := by omega
    case inl =>
      obtain rfl : y = 0 := by have := HE.out; rw [if_neg (by omega), if_neg (by omega)] at this; exact this
      clear ha HE
      by_cases hm : z.m = 1
      · have hm' : (z.m == 1) = true := by simpa using hm
        clear hm
        go_enter Try.func14, Try.ntmps14
        go_wp2_with fail
        refine HH.out.mono ?_
        rintro e w1 ⟨rfl, hb⟩
        have HB := Lib.hid (hb.alloc hb.size (.cells #[.int .i64 z.o, .int .i64 z.h, .int .i64 z.m, .int .i64 z.c] 47))
        clear HH hb
        go_wp2
        go_ret
        exact ⟨rfl, HB.out⟩
      · have hm' : (z.m == 1) = false := by simpa using hm
        clear hm
        go_enter Try.func14, Try.ntmps14
        go_wp2_with fail
        refine HH.out.mono ?_
        rintro e w1 ⟨rfl, hb⟩
        have HB := Lib.hid (hb.alloc hb.size (.cells #[.int .i64 z.o, .int .i64 z.h, .int .i64 z.m, .int .i64 z.c] 47))
        clear HH hb
        go_wp2
        go_ret
        exact ⟨rfl, HB.out⟩
    case inr.inl =>
      clear ha
      by_cases hm : z.m = 1
      · obtain rfl : y = 14 := by have := HE.out; rw [if_neg (by omega), if_pos (by omega)] at this; exact this
        have hm' : (z.m == 1) = true := by simpa using hm
        clear hm HE
        go_enter Try.func14, Try.ntmps14
        go_wp2_with fail
        refine HH.out.mono ?_
        rintro e w1 ⟨rfl, hb⟩
        have HB := Lib.hid (hb.alloc hb.size (.cells #[.int .i64 z.o, .int .i64 z.h, .int .i64 z.m, .int .i64 z.c] 47))
        clear HH hb
        go_wp2
        go_ret
        exact ⟨rfl, HB.out⟩
      · obtain rfl : y = 0 := by have := HE.out; rw [if_neg (by omega), if_neg (by omega)] at this; exact this
        have hm' : (z.m == 1) = false := by simpa using hm
        clear hm HE
        go_enter Try.func14, Try.ntmps14
        go_wp2_with fail
        refine HH.out.mono ?_
        rintro e w1 ⟨rfl, hb⟩
        have HB := Lib.hid (hb.alloc hb.size (.cells #[.int .i64 z.o, .int .i64 z.h, .int .i64 z.m, .int .i64 z.c] 47))
        clear HH hb
        go_wp2
        go_ret
        exact ⟨rfl, HB.out⟩
    all_goals
      obtain rfl : y = 13 := by have := HE.out; rw [if_pos (by omega)] at this; exact this
      clear ha HE
      go_enter Try.func14, Try.ntmps14
      go_wp2_with fail
      refine HH.out.mono ?_
      rintro e w1 ⟨rfl, hb⟩
      have HB := Lib.hid (hb.alloc hb.size (.cells #[.int .i64 z.o, .int .i64 z.h, .int .i64 z.m, .int .i64 z.c] 47))
      clear HH hb
      go_wp2
      go_ret
      exact ⟨rfl, HB.out⟩
theorem access_any (b : Bool) (a : Int) (H : Ldq w c k q L) (ho : Ri o) (hL : Srt L) (hn : L.length ≤ 1000000) : Calls Try.prog 14 #[.pointer q, .int .i64 o, .int .i64 p, .bool b, .int .i64 a] w fun e w' => e = .returned (.int .i64 (accE o p b a L)) ∧ Below w.heap.size w w' := by
  unfold accE
  by_cases ha : 1 ≤ a ∧ a ≤ 4
  · rw [if_neg (by omega)]
    cases b with
    | false => exact access_oth a ha H ho hL hn
    | true => exact access_own a ha H ho
  · rw [if_pos ha]
    exact access_bad b a ha
end
end Go.Proofs.Ytmmlelmkgnhofaa
