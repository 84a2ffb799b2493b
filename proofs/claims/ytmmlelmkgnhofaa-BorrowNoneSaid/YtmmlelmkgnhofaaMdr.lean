/-
  Contracts of the model's ledger: Of, Holds, Held, without. Conditions: at most a hundred thousand borrows.
-/
import Derived.Test.YtmmlelmkgnhofaaLdr
namespace Go.Proofs.Ytmmlelmkgnhofaa
open Go.ChangeShapes Go.WideShapes Go.ChangeAt Go.RowKit
set_option linter.unusedVariables false
set_option linter.unusedSimpArgs false
set_option maxHeartbeats 4000000
set_option maxRecDepth 100000

/-- The model's ledger at block p, as it reads. -/
def Mlr (w : World) (p : Nat) (L : List Bo) : Prop := ∃ A n cap, w.cell? ⟨p, 0, none⟩ = some (.slice A n cap) ∧ Kws bo4 w w.heap.size A n cap L
section
variable {w w' : World} {p N : Nat} {L : List Bo} {o h : Int}
theorem Mlr.go (H : Mlr w p L) (hb : Below w.heap.size w w') : Mlr w' p L := by
  obtain ⟨A, n, cap, h1, h2⟩ := H
  exact ⟨A, n, cap, (hb.cell (p := ⟨p, 0, none⟩) (lt_of_some h1)).trans h1, h2.go hb⟩
theorem of_step {i : Nat} {x : Bo} (hx : L[i]? = some x) : ofL o (L.take (i + 1)) = ofL o (L.take i) ++ (if x.o = o then [x] else []) := by
  unfold ofL
  rw [List.take_add_one, hx, List.filter_append]
  congr 1
  by_cases e : x.o = o <;> simp [e]
theorem rem_step {i : Nat} {x : Bo} (hx : L[i]? = some x) : remL o h (L.take (i + 1)) = remL o h (L.take i) ++ (if x.o = o ∧ x.h = h then [] else [x]) := by
  unfold remL
  rw [List.take_add_one, hx, List.filter_append]
  congr 1
  by_cases e : x.o = o ∧ x.h = h
  · rw [if_pos e]
    simp [e]
  · rw [if_neg e]
    exact List.filter_cons_of_pos (decide_eq_true e)
theorem endH_step {i : Nat} {x : Bo} (hx : L[i]? = some x) : endH h (L.take (i + 1)) = endH h (L.take i) ++ (if x.h = h then [] else [x]) := by
  unfold endH
  rw [List.take_add_one, hx, List.filter_append]
  congr 1
  by_cases e : x.h = h <;> simp [e]
theorem held_step {i : Nat} {x : Bo} (hx : L[i]? = some x) : heldN h (L.take (i + 1)) = heldN h (L.take i) + (if x.h = h then 1 else 0) := by
  unfold heldN
  rw [List.take_add_one, hx, List.filter_append, List.length_append]
  congr 1
  by_cases e : x.h = h <;> simp [e]
theorem has_step {i : Nat} {x : Bo} (hx : L[i]? = some x) (hn : hasL o h (L.take i) = none) : (¬ (x.o = o ∧ x.h = h) → hasL o h (L.take (i + 1)) = none) ∧ (x.o = o ∧ x.h = h → hasL o h L = some x) := by
  constructor
  · intro e
    unfold hasL at *
    rw [List.take_add_one, hx, List.find?_append, hn]
    simp [e]
  · intro e
    have hi := (List.getElem?_eq_some_iff.1 hx)
    have h1 := List.take_append_drop i L
    unfold hasL at *
    rw [← h1, List.find?_append, hn, List.drop_eq_getElem_cons hi.1, hi.2, List.find?_cons_of_pos (by simpa using e)]
    rfl
theorem take_len {l : List Bo} {i : Nat} (f : List Bo → List Bo) (hf : ∀ K, (f K).length ≤ K.length) (hl : l.length ≤ 100000) : (f (l.take i)).length ≤ 100000 := by
  have h1 := hf (l.take i)
  have h2 := List.length_take (i := i) (l := l)
  omega
theorem ofR_any (H : Mlr w p L) (hn : L.length ≤ 100000) : Calls Try.prog 30 #[.pointer (some ⟨p, 0, none⟩), .int .i64 o] w (MkB w (ofL o L)) := by
  obtain ⟨i0, hi0, hz0, hz1, hz2⟩ := info_parts infoB
  obtain ⟨A, n, cap, hc, hk⟩ := H
  have HC := Lib.hid hc
  have HK := Lib.hid hk
  have hcap := hk.cap
  have hsm := hk.small
  have hlen := hk.len
  unfold maxLen at hsm
  unfold MkB
  clear hc hk
  go_enter Try.func30, Try.ntmps30
  go_wp2
  go_loopw [5, 6] (fun lv iv wr => ∃ i : Nat, i ≤ n ∧ iv = .int .i64 i ∧ Hid (OwnK bo4 47 wr w.heap.size lv (ofL o (L.take i)) ∧ Below w.heap.size w wr)) (fun _ iv _ => n - (intOf iv).toNat)
  case atStart => exact ⟨0, Nat.zero_le _, rfl, Lib.hid ⟨OwnK.nil _ _ _ _, Below.refl _ _⟩⟩
  case round =>
    obtain ⟨i, hi, rfl, hh⟩ := hrel
    obtain ⟨hor, hbr⟩ := hh.out
    obtain ⟨A1, n1, c1, rfl, hx1⟩ := hor.shape
    have c0 := (hbr.cell (p := ⟨p, 0, none⟩) (lt_of_some HC.out)).trans HC.out
    have HOR := Lib.hid hor
    have HBR := Lib.hid hbr
    by_cases hin : i < n
    · obtain ⟨b, ob, x, hx, rfl, hb, g0, g1, g2, g3⟩ := (HK.out.go hbr).bo hin
      have hi0' : (0 : Int) ≤ (i : Int) := by omega
      have hi1 : (i : Int) < (n : Int) := by omega
      have hd : decide ((i : Int) < (n : Int)) = true := decide_eq_true hi1
      by_cases he : x.o = o
      · have he' : (x.o == o) = true := by simpa using he
        have HST : Hid (ofL o (L.take (i + 1)) = ofL o (L.take i) ++ [x]) := Lib.hid (by rw [of_step hx, if_pos he])
        have HLE : Hid ((ofL o (L.take i)).length ≤ 100000) := Lib.hid (take_len (ofL o) (fun K => of_len) hn)
        have HNW : Hid (Kws bo4 (wr.alloc (.cells #[.int .i64 x.o, .int .i64 x.h, .int .i64 x.m, .int .i64 x.c] 47)) (wr.heap.size + 1) (some ⟨wr.heap.size, 0, none⟩) 1 1 [x]) := Lib.hid (Kws.new wr [x] _ _ 1 rfl rfl (by unfold maxLen; omega))
        clear hh hor hbr hx1 hx hb he
        go_wp2_with (at_builtin; go_must (refine wpList_appK _ rfl (.tmp 26) (.tmp 34) 26 rfl Try.underlying26 hi0 hz0 rfl hz1 (by omega) (HOR.out.alloc _) rfl HNW.out rfl (by have := HLE.out; omega) (by have := HBR.out.size; simp; omega) ?_); intro v3 w3 ho3 hb3 hg3; obtain ⟨A3, n3, c3, rfl, hx3⟩ := ho3.shape)
        have HO3 := Lib.hid ho3
        have HB3 := Lib.hid ((HBR.out.alloc HBR.out.size (.cells #[.int .i64 x.o, .int .i64 x.h, .int .i64 x.m, .int .i64 x.c] 47)).trans hb3)
        clear ho3 hb3 hg3 hx3 HNW
        go_wp2
        go_roundw
        case rel => exact ⟨i + 1, by omega, by go_num, Lib.hid ⟨by rw [HST.out]; exact HO3.out, HB3.out⟩⟩
        case measure => simp [intOf]; omega
      · have he' : (x.o == o) = false := by simpa using he
        have HST : Hid (ofL o (L.take (i + 1)) = ofL o (L.take i)) := Lib.hid (by rw [of_step hx, if_neg he, List.append_nil])
        clear hh hor hbr hx1 hx hb he
        go_wp2
        go_roundw
        case rel => exact ⟨i + 1, by omega, by go_num, Lib.hid ⟨by rw [HST.out]; exact HOR.out, HBR.out⟩⟩
        case measure => simp [intOf]; omega
    · obtain rfl : i = n := by omega
      have HE : Hid (L.take i = L) := Lib.hid (List.take_of_length_le (by omega))
      clear hh hor hbr hx1
      have hd : decide ((i : Int) < (i : Int)) = false := by simp
      go_wp2
      go_ret
      exact ⟨_, rfl, by rw [← HE.out]; exact HOR.out, HBR.out⟩
theorem without_any (H : Mlr w p L) (hn : L.length ≤ 100000) : Calls Try.prog 39 #[.pointer (some ⟨p, 0, none⟩), .int .i64 o, .int .i64 h] w (MkB w (remL o h L)) := by
  obtain ⟨i0, hi0, hz0, hz1, hz2⟩ := info_parts infoB
  obtain ⟨A, n, cap, hc, hk⟩ := H
  have HC := Lib.hid hc
  have HK := Lib.hid hk
  have hcap := hk.cap
  have hsm := hk.small
  have hlen := hk.len
  unfold maxLen at hsm
  unfold MkB
  clear hc hk
  go_enter Try.func39, Try.ntmps39
  go_wp2
  go_loopw [7, 8] (fun lv iv wr => ∃ i : Nat, i ≤ n ∧ iv = .int .i64 i ∧ Hid (OwnK bo4 47 wr w.heap.size lv (remL o h (L.take i)) ∧ Below w.heap.size w wr)) (fun _ iv _ => n - (intOf iv).toNat)
  case atStart => exact ⟨0, Nat.zero_le _, rfl, Lib.hid ⟨OwnK.nil _ _ _ _, Below.refl _ _⟩⟩
  case round =>
    obtain ⟨i, hi, rfl, hh⟩ := hrel
    obtain ⟨hor, hbr⟩ := hh.out
    obtain ⟨A1, n1, c1, rfl, hx1⟩ := hor.shape
    have c0 := (hbr.cell (p := ⟨p, 0, none⟩) (lt_of_some HC.out)).trans HC.out
    have HOR := Lib.hid hor
    have HBR := Lib.hid hbr
    by_cases hin : i < n
    · obtain ⟨b, ob, x, hx, rfl, hb, g0, g1, g2, g3⟩ := (HK.out.go hbr).bo hin
      have hi0' : (0 : Int) ≤ (i : Int) := by omega
      have hi1 : (i : Int) < (n : Int) := by omega
      have hd : decide ((i : Int) < (n : Int)) = true := decide_eq_true hi1
      have HLE : Hid ((remL o h (L.take i)).length ≤ 100000) := Lib.hid (take_len (remL o h) (fun K => List.length_filter_le _ _) hn)
      have HNW : Hid (Kws bo4 (wr.alloc (.cells #[.int .i64 x.o, .int .i64 x.h, .int .i64 x.m, .int .i64 x.c] 47)) (wr.heap.size + 1) (some ⟨wr.heap.size, 0, none⟩) 1 1 [x]) := Lib.hid (Kws.new wr [x] _ _ 1 rfl rfl (by unfold maxLen; omega))
      have HR0 := Lib.hid (rem_step (o := o) (h := h) hx)
      clear hh hor hbr hx1 hx hb
      by_cases he : x.o = o
      · have he' : (x.o != o) = false := by simpa using he
        by_cases hf : x.h = h
        · have hf' : (x.h != h) = false := by simpa using hf
          have HST : Hid (remL o h (L.take (i + 1)) = remL o h (L.take i)) := Lib.hid (by rw [HR0.out, if_pos ⟨he, hf⟩, List.append_nil])
          clear he hf HR0 HNW
          go_wp2
          go_roundw
          case rel => exact ⟨i + 1, by omega, by go_num, Lib.hid ⟨by rw [HST.out]; exact HOR.out, HBR.out⟩⟩
          case measure => simp [intOf]; omega
        · have hf' : (x.h != h) = true := by simpa using hf
          have HST : Hid (remL o h (L.take (i + 1)) = remL o h (L.take i) ++ [x]) := Lib.hid (by rw [HR0.out, if_neg (fun e => hf e.2)])
          clear he hf HR0
          go_wp2_with (at_builtin; go_must (refine wpList_appK _ rfl (.tmp 40) (.tmp 48) 26 rfl Try.underlying26 hi0 hz0 rfl hz1 (by omega) (HOR.out.alloc _) rfl HNW.out rfl (by have := HLE.out; omega) (by have := HBR.out.size; simp; omega) ?_); intro v3 w3 ho3 hb3 hg3; obtain ⟨A3, n3, c3, rfl, hx3⟩ := ho3.shape)
          have HO3 := Lib.hid ho3
          have HB3 := Lib.hid ((HBR.out.alloc HBR.out.size (.cells #[.int .i64 x.o, .int .i64 x.h, .int .i64 x.m, .int .i64 x.c] 47)).trans hb3)
          clear ho3 hb3 hg3 hx3 HNW
          go_wp2
          go_roundw
          case rel => exact ⟨i + 1, by omega, by go_num, Lib.hid ⟨by rw [HST.out]; exact HO3.out, HB3.out⟩⟩
          case measure => simp [intOf]; omega
      · have he' : (x.o != o) = true := by simpa using he
        have HST : Hid (remL o h (L.take (i + 1)) = remL o h (L.take i) ++ [x]) := Lib.hid (by rw [HR0.out, if_neg (fun e => he e.1)])
        clear he HR0
        go_wp2_with (at_builtin; go_must (refine wpList_appK _ rfl (.tmp 40) (.tmp 48) 26 rfl Try.underlying26 hi0 hz0 rfl hz1 (by omega) (HOR.out.alloc _) rfl HNW.out rfl (by have := HLE.out; omega) (by have := HBR.out.size; simp; omega) ?_); intro v3 w3 ho3 hb3 hg3; obtain ⟨A3, n3, c3, rfl, hx3⟩ := ho3.shape)
        have HO3 := Lib.hid ho3
        have HB3 := Lib.hid ((HBR.out.alloc HBR.out.size (.cells #[.int .i64 x.o, .int .i64 x.h, .int .i64 x.m, .int .i64 x.c] 47)).trans hb3)
        clear ho3 hb3 hg3 hx3 HNW
        go_wp2
        go_roundw
        case rel => exact ⟨i + 1, by omega, by go_num, Lib.hid ⟨by rw [HST.out]; exact HO3.out, HB3.out⟩⟩
        case measure => simp [intOf]; omega
    · obtain rfl : i = n := by omega
      have HE : Hid (L.take i = L) := Lib.hid (List.take_of_length_le (by omega))
      clear hh hor hbr hx1
      have hd : decide ((i : Int) < (i : Int)) = false := by simp
      go_wp2
      go_ret
      exact ⟨_, rfl, by rw [← HE.out]; exact HOR.out, HBR.out⟩
theorem heldR_any (H : Mlr w p L) (hn : L.length ≤ 100000) : Calls Try.prog 31 #[.pointer (some ⟨p, 0, none⟩), .int .i64 h] w fun e w' => e = .returned (.int .i64 (heldN h L)) ∧ w = w' := by
  obtain ⟨A, n, cap, hc, hk⟩ := H
  have HK := Lib.hid hk
  have hcap := hk.cap
  have hsm := hk.small
  have hlen := hk.len
  unfold maxLen at hsm
  clear hk
  go_enter Try.func31, Try.ntmps31
  go_wp2
  go_loopw [5, 6] (fun lv iv wr => ∃ i : Nat, i ≤ n ∧ iv = .int .i64 i ∧ ∃ y : Nat, lv = .int .i64 y ∧ y ≤ i ∧ wr = w ∧ Hid (y = heldN h (L.take i))) (fun _ iv _ => n - (intOf iv).toNat)
  case atStart => exact ⟨0, Nat.zero_le _, rfl, 0, rfl, Nat.le_refl _, rfl, Lib.hid rfl⟩
  case round =>
    obtain ⟨i, hi, rfl, y, rfl, hy, rfl, hh⟩ := hrel
    by_cases hin : i < n
    · obtain ⟨b, ob, x, hx, rfl, hb, g0, g1, g2, g3⟩ := HK.out.bo hin
      have hi0' : (0 : Int) ≤ (i : Int) := by omega
      have hi1 : (i : Int) < (n : Int) := by omega
      have hd : decide ((i : Int) < (n : Int)) = true := decide_eq_true hi1
      by_cases he : x.h = h
      · have he' : (x.h == h) = true := by simpa using he
        have HST : Hid (y + 1 = heldN h (L.take (i + 1))) := Lib.hid (by rw [held_step hx, if_pos he, hh.out])
        clear hh hx hb he
        go_wp2
        go_roundw
        case rel => exact ⟨i + 1, by omega, by go_num, y + 1, by go_num, by omega, by first | rfl | trivial, HST⟩
        case measure => simp [intOf]; omega
      · have he' : (x.h == h) = false := by simpa using he
        have HST : Hid (y = heldN h (L.take (i + 1))) := Lib.hid (by rw [held_step hx, if_neg he, hh.out]; rfl)
        clear hh hx hb he
        go_wp2
        go_roundw
        case rel => exact ⟨i + 1, by omega, by go_num, y, rfl, by omega, by first | rfl | trivial, HST⟩
        case measure => simp [intOf]; omega
    · obtain rfl : i = n := by omega
      have HE : Hid (L.take i = L) := Lib.hid (List.take_of_length_le (by omega))
      have hd : decide ((i : Int) < (i : Int)) = false := by simp
      go_wp2
      go_ret
      exact ⟨by rw [← HE.out, ← hh.out]; rfl, rfl⟩
theorem holdsR_any (H : Mlr w p L) (hn : L.length ≤ 100000) : Calls Try.prog 29 #[.pointer (some ⟨p, 0, none⟩), .int .i64 o, .int .i64 h] w (HoE w (hasL o h L)) := by
  obtain ⟨A, n, cap, hc, hk⟩ := H
  have HC := Lib.hid hc
  have HK := Lib.hid hk
  have hcap := hk.cap
  have hsm := hk.small
  have hlen := hk.len
  unfold maxLen at hsm
  have HX0 : Hid ((w.alloc (.cells #[.int .i64 0, .int .i64 0, .int .i64 0, .int .i64 0] 47)).heap[w.heap.size]? = some (.cells #[.int .i64 0, .int .i64 0, .int .i64 0, .int .i64 0] 47 (0, 0))) := Lib.hid (heap_alloc_new w _)
  have HB0 : Hid (Below w.heap.size w (w.alloc (.cells #[.int .i64 0, .int .i64 0, .int .i64 0, .int .i64 0] 47))) := Lib.hid ((Below.refl _ _).alloc (Nat.le_refl _) _)
  unfold HoE
  clear hc hk
  go_enter Try.func29, Try.ntmps29
  go_wp2
  go_loopw [8] (fun iv wr => ∃ i : Nat, i ≤ n ∧ iv = .int .i64 i ∧ Hid (hasL o h (L.take i) = none ∧ Below w.heap.size w wr ∧ wr.heap[w.heap.size]? = some (.cells #[.int .i64 0, .int .i64 0, .int .i64 0, .int .i64 0] 47 (0, 0)))) (fun iv _ => n - (intOf iv).toNat)
  case atStart => exact ⟨0, Nat.zero_le _, rfl, Lib.hid ⟨rfl, HB0.out, HX0.out⟩⟩
  case round =>
    obtain ⟨i, hi, rfl, hh⟩ := hrel
    obtain ⟨hno, hbr, hX⟩ := hh.out
    have c0 := (hbr.cell (p := ⟨p, 0, none⟩) (lt_of_some HC.out)).trans HC.out
    have HNO := Lib.hid hno
    have HBR := Lib.hid hbr
    have HX := Lib.hid hX
    by_cases hin : i < n
    · obtain ⟨b, ob, x, hx, rfl, hb, g0, g1, g2, g3⟩ := (HK.out.go hbr).bo hin
      have hi0' : (0 : Int) ≤ (i : Int) := by omega
      have hi1 : (i : Int) < (n : Int) := by omega
      have hd : decide ((i : Int) < (n : Int)) = true := decide_eq_true hi1
      have HS := Lib.hid (has_step (o := o) (h := h) hx hno)
      clear hh hno hbr hX hx hb
      by_cases he : x.o = o
      · have he' : (x.o == o) = true := by simpa using he
        by_cases hf : x.h = h
        · have hf' : (x.h == h) = true := by simpa using hf
          have HN : Hid (hasL o h L = some x) := Lib.hid (HS.out.2 ⟨he, hf⟩)
          have hlt2 : w.heap.size < wr.heap.size := (Array.getElem?_eq_some_iff.1 HX.out).1
          have k0 : wr.cell? ⟨w.heap.size, 0, none⟩ = some (.int .i64 0) := cell_of_row wr _ 0 _ _ _ HX.out
          have k1 : wr.cell? ⟨w.heap.size, 1, none⟩ = some (.int .i64 0) := cell_of_row wr _ 1 _ _ _ HX.out
          have k2 : wr.cell? ⟨w.heap.size, 2, none⟩ = some (.int .i64 0) := cell_of_row wr _ 2 _ _ _ HX.out
          have k3 : wr.cell? ⟨w.heap.size, 3, none⟩ = some (.int .i64 0) := cell_of_row wr _ 3 _ _ _ HX.out
          have f0 := frozen_of_row wr w.heap.size 0 _ _ HX.out
          have f1 := frozen_of_row wr w.heap.size 1 _ _ HX.out
          have f2 := frozen_of_row wr w.heap.size 2 _ _ HX.out
          have f3 := frozen_of_row wr w.heap.size 3 _ _ HX.out
          have HW4 := Lib.hid (set4 HX.out (.int .i64 x.o) (.int .i64 x.h) (.int .i64 x.m) (.int .i64 x.c))
          have HB4 := Lib.hid ((((HBR.out.setCell (p := ⟨w.heap.size, 0, none⟩) (Nat.le_refl _) (.int .i64 x.o)).setCell (p := ⟨w.heap.size, 1, none⟩) (Nat.le_refl _) (.int .i64 x.h)).setCell (p := ⟨w.heap.size, 2, none⟩) (Nat.le_refl _) (.int .i64 x.m)).setCell (p := ⟨w.heap.size, 3, none⟩) (Nat.le_refl _) (.int .i64 x.c))
          clear he hf HS HX HBR hlt2 HNO
          go_wp2
          clear k0 k1 k2 k3 f0 f1 f2 f3 g0 g1 g2 g3
          generalize (((wr.setCell _ _).setCell _ _).setCell _ _).setCell _ _ = w4 at *
          have k0 := cell_of_row w4 _ 0 _ _ _ HW4.out
          have k1 := cell_of_row w4 _ 1 _ _ _ HW4.out
          have k2 := cell_of_row w4 _ 2 _ _ _ HW4.out
          have k3 := cell_of_row w4 _ 3 _ _ _ HW4.out
          refine bodyPost_ret (v := .tuple #[boA x, .bool true]) (by simp [results, Try.results29, go_sem, k0, k1, k2, k3, boA]) rfl ?_
          rw [HN.out]
          exact ⟨rfl, HB4.out⟩
        · have hf' : (x.h == h) = false := by simpa using hf
          have HN : Hid (hasL o h (L.take (i + 1)) = none) := Lib.hid (HS.out.1 (fun e => hf e.2))
          clear he hf HS HNO
          go_wp2
          go_roundw
          case rel => exact ⟨i + 1, by omega, by go_num, Lib.hid ⟨HN.out, HBR.out, HX.out⟩⟩
          case measure => simp [intOf]; omega
      · have he' : (x.o == o) = false := by simpa using he
        have HN : Hid (hasL o h (L.take (i + 1)) = none) := Lib.hid (HS.out.1 (fun e => he e.1))
        clear he HS HNO
        go_wp2
        go_roundw
        case rel => exact ⟨i + 1, by omega, by go_num, Lib.hid ⟨HN.out, HBR.out, HX.out⟩⟩
        case measure => simp [intOf]; omega
    · obtain rfl : i = n := by omega
      have HN : Hid (hasL o h L = none) := Lib.hid (by rw [← hno, List.take_of_length_le (by omega)])
      have hd : decide ((i : Int) < (i : Int)) = false := by simp
      have hlt2 : w.heap.size < wr.heap.size := (Array.getElem?_eq_some_iff.1 HX.out).1
      have k0 : wr.cell? ⟨w.heap.size, 0, none⟩ = some (.int .i64 0) := cell_of_row wr _ 0 _ _ _ HX.out
      have k1 : wr.cell? ⟨w.heap.size, 1, none⟩ = some (.int .i64 0) := cell_of_row wr _ 1 _ _ _ HX.out
      have k2 : wr.cell? ⟨w.heap.size, 2, none⟩ = some (.int .i64 0) := cell_of_row wr _ 2 _ _ _ HX.out
      have k3 : wr.cell? ⟨w.heap.size, 3, none⟩ = some (.int .i64 0) := cell_of_row wr _ 3 _ _ _ HX.out
      have f0 := frozen_of_row wr w.heap.size 0 _ _ HX.out
      have f1 := frozen_of_row wr w.heap.size 1 _ _ HX.out
      have f2 := frozen_of_row wr w.heap.size 2 _ _ HX.out
      have f3 := frozen_of_row wr w.heap.size 3 _ _ HX.out
      have HW4 := Lib.hid (set4 HX.out (.int .i64 0) (.int .i64 0) (.int .i64 0) (.int .i64 0))
      have HB4 := Lib.hid ((((HBR.out.setCell (p := ⟨w.heap.size, 0, none⟩) (Nat.le_refl _) (.int .i64 0)).setCell (p := ⟨w.heap.size, 1, none⟩) (Nat.le_refl _) (.int .i64 0)).setCell (p := ⟨w.heap.size, 2, none⟩) (Nat.le_refl _) (.int .i64 0)).setCell (p := ⟨w.heap.size, 3, none⟩) (Nat.le_refl _) (.int .i64 0))
      clear hh hno hbr hX HX HBR hlt2 HNO
      go_wp2
      clear k0 k1 k2 k3 f0 f1 f2 f3
      generalize (((wr.setCell _ _).setCell _ _).setCell _ _).setCell _ _ = w4 at *
      have k0 := cell_of_row w4 _ 0 _ _ _ HW4.out
      have k1 := cell_of_row w4 _ 1 _ _ _ HW4.out
      have k2 := cell_of_row w4 _ 2 _ _ _ HW4.out
      have k3 := cell_of_row w4 _ 3 _ _ _ HW4.out
      refine bodyPost_ret (v := .tuple #[.agg #[.int .i64 0, .int .i64 0, .int .i64 0, .int .i64 0], .bool false]) (by simp [results, Try.results29, go_sem, k0, k1, k2, k3]) rfl ?_
      rw [HN.out]
      exact ⟨rfl, HB4.out⟩
end
end Go.Proofs.Ytmmlelmkgnhofaa
