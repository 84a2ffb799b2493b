/-
  Slices of events in memory; contracts of the model's log as it reads: counts, Records, Missed, Room. Conditions: at most a hundred thousand records.
-/
import Derived.Test.YtlgoiccekgjhnaaAlp
import Derived.Test.YtlgoiccekgjhnaaEvx
import Derived.Test.YtlgoiccekgjhnaaCol
namespace Go.Proofs.Ytlgoiccekgjhnaa
open Go.ChangeShapes Go.WideShapes Go.ChangeAt Go.RowKit
set_option linter.unusedVariables false
set_option linter.unusedSimpArgs false
set_option maxHeartbeats 4000000
set_option maxRecDepth 100000

theorem Kws.ev_ {w : World} {B n c i : Nat} {A : Option Addr} {l : List Ev5} (h : Kws ev5 w B A n c l) (hi : i < n) :
    ∃ b o x, l[i]? = some x ∧ A = some ⟨b, o, none⟩ ∧ b < B ∧ w.cell? ⟨b, o + i * 5, none⟩ = some (.int .i64 x.p) ∧ w.cell? ⟨b, o + i * 5 + 1, none⟩ = some (.int .i64 x.o) ∧ w.cell? ⟨b, o + i * 5 + 2, none⟩ = some (.int .u64 x.h) ∧
      w.cell? ⟨b, o + i * 5 + 3, none⟩ = some (.int .u64 x.a) ∧ w.cell? ⟨b, o + i * 5 + 4, none⟩ = some (.int .i64 x.e) := by
  obtain ⟨b, o, x, hx, e, hb, hc⟩ := h.at_ hi
  exact ⟨b, o, x, hx, e, hb, hc 0 _ rfl, hc 1 _ rfl, hc 2 _ rfl, hc 3 _ rfl, hc 4 _ rfl⟩
/-- A new block with one event. -/
theorem Kws.one_ (w : World) (x : Ev5) : Kws ev5 (w.alloc (.cells #[.int .i64 x.p, .int .i64 x.o, .int .u64 x.h, .int .u64 x.a, .int .i64 x.e] 27)) (w.heap.size + 1) (some ⟨w.heap.size, 0, none⟩) 1 1 [x] :=
  Kws.new w [x] _ _ 1 rfl rfl (by unfold maxLen; omega)
theorem infoE : (Try.prog.info? 27).map (fun i => (i.zero, i.size, i.bytes)) = some (some (.agg #[.int .i64 0, .int .i64 0, .int .u64 0, .int .u64 0, .int .i64 0]), 5, 40) := by kernel_rfl

theorem counts_any (p o h a e : Int) (w : World) : Calls Try.prog 42 #[.agg #[.int .i64 p, .int .i64 o, .int .u64 h, .int .u64 a, .int .i64 e]] w (Says w (.bool (decide (auc ⟨p, o, h, a, e⟩)))) := by
  have HB := Lib.hid ((Below.refl w.heap.size w).alloc (Nat.le_refl _) (.cells #[.int .i64 p, .int .i64 o, .int .u64 h, .int .u64 a, .int .i64 e] 27))
  obtain ⟨c0, c1, c2, c3, c4⟩ := (EvB.new (w := w) (p := p) (o := o) (h := h) (a := a) (e := e)).cells
  by_cases h1 : o = 32
  · have h1' : (o != 32) = false := by simpa using h1
    rw [decide_eq_false (fun hc : auc ⟨p, o, h, a, e⟩ => hc.1 h1)]
    clear h1
    go_enter Try.func42, Try.ntmps42
    go_wp2
    go_ret
    exact Says.of HB.out
  · have h1' : (o != 32) = true := by simpa using h1
    by_cases h2 : o = 33
    · have h2' : (o != 33) = false := by simpa using h2
      rw [decide_eq_false (fun hc : auc ⟨p, o, h, a, e⟩ => hc.2 h2)]
      clear h1 h2
      go_enter Try.func42, Try.ntmps42
      go_wp2
      go_ret
      exact Says.of HB.out
    · have h2' : (o != 33) = true := by simpa using h2
      rw [decide_eq_true (show auc ⟨p, o, h, a, e⟩ from ⟨h1, h2⟩)]
      clear h1 h2
      go_enter Try.func42, Try.ntmps42
      go_wp2
      go_ret
      exact Says.of HB.out

/-- The model's log at block p, as it reads: its capacity, its events, and the plugins of the missed ones. -/
def Mgr (w : World) (p : Nat) (cap : Int) (L : List Ev5) (M : List Int) : Prop :=
  ∃ A n c A2 n2 c2, w.heap[p]? = some (.cells #[.int .i64 cap, .slice A n c, .slice A2 n2 c2] 38 (0, 0)) ∧ Kws ev5 w w.heap.size A n c L ∧ Row w w.heap.size A2 n2 c2 (iv .i64 M)
section
variable {w w' : World} {p : Nat} {cap : Int} {L : List Ev5} {M : List Int}
theorem Mgr.lt (H : Mgr w p cap L M) : p < w.heap.size := by
  obtain ⟨A, n, c, A2, n2, c2, h1, _⟩ := H
  exact (Array.getElem?_eq_some_iff.1 h1).1
theorem Mgr.go (H : Mgr w p cap L M) (hb : Below w.heap.size w w') : Mgr w' p cap L M := by
  obtain ⟨A, n, c, A2, n2, c2, h1, h2, h3⟩ := H
  exact ⟨A, n, c, A2, n2, c2, (hb.block p (Array.getElem?_eq_some_iff.1 h1).1).trans h1, h2.go hb, h3.go hb⟩
theorem recordsM_any (z : Int) (H : Mgr w p cap L M) (hn : L.length ≤ 100000) : Calls Try.prog 45 #[.pointer (some ⟨p, 0, none⟩), .int .i64 z] w (Says w (.int .i64 (rcN L z))) := by
  have HH := Lib.hid H
  obtain ⟨A, n, c, A2, n2, c2, hblk, hk, _⟩ := H
  have HC := Lib.hid hblk
  have HK := Lib.hid hk
  have hcap := hk.cap
  have hsm := hk.small
  have hlen := hk.len
  unfold maxLen at hsm
  clear hk hblk
  go_enter Try.func45, Try.ntmps45
  go_wp2
  go_loopw [5, 6] (fun lv iv wr => ∃ i : Nat, i ≤ n ∧ iv = .int .i64 i ∧ ∃ y : Nat, lv = .int .i64 y ∧ y ≤ i ∧ Hid (y = rcN (L.take i) z ∧ Below w.heap.size w wr)) (fun _ iv _ => n - (intOf iv).toNat)
  case atStart => exact ⟨0, Nat.zero_le _, rfl, 0, rfl, Nat.le_refl _, Lib.hid ⟨rfl, Below.refl _ _⟩⟩
  case round =>
    obtain ⟨i, hi, rfl, y, rfl, hy, hh⟩ := hrel
    have HBR := Lib.hid hh.out.2
    have HY := Lib.hid hh.out.1
    have hblk := (HBR.out.block p (Array.getElem?_eq_some_iff.1 HC.out).1).trans HC.out
    have b0 := cell_of_row wr p 0 _ _ _ hblk
    have b1 := cell_of_row wr p 1 _ _ _ hblk
    simp only [List.getElem?_toArray, List.getElem?_cons_zero, List.getElem?_cons_succ] at b0 b1
    clear hh hblk
    by_cases hin : i < n
    · obtain ⟨b, ob, x, hx, rfl, hb, g0, g1, g2, g3, g4⟩ := (HK.out.go HBR.out).ev_ hin
      have hi1 : (i : Int) < (n : Int) := by omega
      have HST := Lib.hid (rcN_next hx z)
      by_cases he : x.p = z
      · have he' : (x.p == z) = true := by simpa using he
        have HCN := Lib.hid (counts_any x.p x.o x.h x.a x.e wr)
        have HST2 : Hid (rcN (L.take (i + 1)) z = rcN (L.take i) z + if auc x then 1 else 0) := Lib.hid (by
          rw [HST.out]
          by_cases hc : auc x
          · rw [if_pos ⟨he, hc⟩, if_pos hc]
          · rw [if_neg (fun h => hc h.2), if_neg hc])
        obtain ⟨q, hq⟩ : ∃ q, decide (auc x) = q := ⟨_, rfl⟩
        have HCN2 : Hid (Calls Try.prog 42 #[.agg #[.int .i64 x.p, .int .i64 x.o, .int .u64 x.h, .int .u64 x.a, .int .i64 x.e]] wr (Says wr (.bool q))) := Lib.hid (by rw [← hq]; exact HCN.out)
        obtain ⟨xp, xo, xh, xa, xe⟩ := x
        simp only at g0 g1 g2 g3 g4 he' HCN2 he
        clear hx hb HST HCN
        cases q with
        | true =>
          have HY2 : Hid (y + 1 = rcN (L.take (i + 1)) z) := Lib.hid (by rw [HST2.out, if_pos (of_decide_eq_true hq), ← HY.out])
          clear hq HST2 he
          go_wp2_with fail
          refine HCN2.out.mono ?_
          rintro e w2 ⟨rfl, hb2⟩
          have HB2 := Lib.hid (Below.then HBR.out hb2 (Nat.le_refl _))
          clear hb2 HCN2 HBR g0 g1 g2 g3 g4 b0 b1
          go_wp2
          go_roundw
          case rel => exact ⟨i + 1, by omega, by go_num, y + 1, by go_num, by omega, Lib.hid ⟨HY2.out, HB2.out⟩⟩
          case measure => simp [intOf]; omega
        | false =>
          have HY2 : Hid (y = rcN (L.take (i + 1)) z) := Lib.hid (by rw [HST2.out, if_neg (of_decide_eq_false hq), ← HY.out]; rfl)
          clear hq HST2 he
          go_wp2_with fail
          refine HCN2.out.mono ?_
          rintro e w2 ⟨rfl, hb2⟩
          have HB2 := Lib.hid (Below.then HBR.out hb2 (Nat.le_refl _))
          clear hb2 HCN2 HBR g0 g1 g2 g3 g4 b0 b1
          go_wp2
          go_roundw
          case rel => exact ⟨i + 1, by omega, by go_num, y, rfl, by omega, Lib.hid ⟨HY2.out, HB2.out⟩⟩
          case measure => simp [intOf]; omega
      · have he' : (x.p == z) = false := by simpa using he
        have HY2 : Hid (y = rcN (L.take (i + 1)) z) := Lib.hid (by rw [HST.out, if_neg (fun h => he h.1), ← HY.out]; rfl)
        obtain ⟨xp, xo, xh, xa, xe⟩ := x
        simp only at g0 g1 g2 g3 g4 he'
        clear hx hb HST he
        go_wp2
        go_roundw
        case rel => exact ⟨i + 1, by omega, by go_num, y, rfl, by omega, Lib.hid ⟨HY2.out, HBR.out⟩⟩
        case measure => simp [intOf]; omega
    · obtain rfl : i = n := by omega
      have HE : Hid (y = rcN L z) := Lib.hid (by rw [HY.out, List.take_of_length_le (by omega)])
      have hd : ¬ (i : Int) < (i : Int) := by omega
      go_wp2
      go_ret
      rw [← HE.out]
      exact ⟨rfl, HBR.out⟩
theorem missedM_any (z : Int) (H : Mgr w p cap L M) (hn : M.length ≤ 100000) : Calls Try.prog 47 #[.pointer (some ⟨p, 0, none⟩), .int .i64 z] w (Says w (.int .i64 (msN M z))) := by
  obtain ⟨A2, n2, c2, A, n, c, hblk, _, hk⟩ := H
  have hcap := hk.cap
  have hsm := hk.small
  have hlen := hk.len
  rw [iv_len] at hlen
  unfold maxLen at hsm
  have HK := Lib.hid hk
  have b2 := cell_of_row w p 2 _ _ _ hblk
  simp only [List.getElem?_toArray, List.getElem?_cons_zero, List.getElem?_cons_succ] at b2
  clear hk hblk
  go_enter Try.func47, Try.ntmps47
  go_wp2
  go_loopw [5, 6] (fun lv iv wr => ∃ i : Nat, i ≤ n ∧ iv = .int .i64 i ∧ ∃ y : Nat, lv = .int .i64 y ∧ y ≤ i ∧ wr = w ∧ Hid (y = msN (M.take i) z)) (fun _ iv _ => n - (intOf iv).toNat)
  case atStart => exact ⟨0, Nat.zero_le _, rfl, 0, rfl, Nat.le_refl _, rfl, Lib.hid rfl⟩
  case round =>
    obtain ⟨i, hi, rfl, y, rfl, hy, rfl, hh⟩ := hrel
    by_cases hin : i < n
    · obtain ⟨b, o, rfl, hb, g0⟩ := HK.out.int hin
      have hi1 : (i : Int) < (n : Int) := by omega
      have hx : M[i]? = some (M.getD i 0) := by
        have : i < M.length := by omega
        simp [List.getD, this]
      have HST := Lib.hid (msN_next hx z)
      generalize M.getD i 0 = x at *
      clear hx hb
      by_cases he : x = z
      · have he' : (x == z) = true := by simpa using he
        have HY2 : Hid (y + 1 = msN (M.take (i + 1)) z) := Lib.hid (by rw [HST.out, if_pos he, ← hh.out])
        clear hh HST he
        go_wp2
        go_roundw
        case rel => exact ⟨i + 1, by omega, by go_num, y + 1, by go_num, by omega, by first | rfl | trivial, HY2⟩
        case measure => simp [intOf]; omega
      · have he' : (x == z) = false := by simpa using he
        have HY2 : Hid (y = msN (M.take (i + 1)) z) := Lib.hid (by rw [HST.out, if_neg he, ← hh.out]; rfl)
        clear hh HST he
        go_wp2
        go_roundw
        case rel => exact ⟨i + 1, by omega, by go_num, y, rfl, by omega, by first | rfl | trivial, HY2⟩
        case measure => simp [intOf]; omega
    · obtain rfl : i = n := by omega
      have HE : Hid (y = msN M z) := Lib.hid (by rw [hh.out, List.take_of_length_le (by omega)])
      have hd : ¬ (i : Int) < (i : Int) := by omega
      go_wp2
      go_ret
      rw [← HE.out]
      exact ⟨rfl, Below.refl _ _⟩
end
end Go.Proofs.Ytlgoiccekgjhnaa
