/-
  Contracts of the search for the first extent that ends behind an offset, and of the library's binary search as it is called there. Conditions: the list is valid and has at most a million extents.
-/
import Derived.Test.YtfchccgajcjbbaaVal
namespace Go.Proofs.Ytfchccgajcjbbaa
open Go.ChangeShapes Go.WideShapes Go.ChangeAt Go.RowKit
set_option maxHeartbeats 400000
set_option maxRecDepth 100000

theorem after_yes (bs bo : Nat) (A : Option Addr) (n c : Nat) (l : List (Int × Int)) (off : Int) (w : World) (i : Nat) (x y : Int) (h : Exs w w.heap.size A n c l) (hi : i < n) (hx : l[i]? = some (x, y)) (hp : Pr x y)
    (hs : w.cell? ⟨bs, 0, none⟩ = some (.slice A n c)) (ho : w.cell? ⟨bo, 0, none⟩ = some (.int .i64 off)) :
    Calls Try.prog 87 #[.int .i64 i, .pointer (some ⟨bs, 0, none⟩), .pointer (some ⟨bo, 0, none⟩)] w (Tell w (decide (off < x + y))) := by
  obtain ⟨b, o, x', y', hx', rfl, hb, hc1, hc2, x0, x1, y0, y1⟩ := h.at_ hi
  rw [hx] at hx'
  obtain ⟨rfl, rfl⟩ : x = x' ∧ y = y' := by simpa using hx'
  have hcap := h.cap
  have hsm := h.small
  unfold maxLen at hsm
  clear h hx hx'
  have HP := Lib.hid hp
  obtain ⟨p1, p2, p3⟩ := hp
  have hi1 : (i : Int) < (n : Int) := by omega
  have f0 : ∀ m : Later w, m.val.cell? ⟨b, o + i * 2, none⟩ = some (.int .i64 x) := fun m => later_old m hc1
  have f1 : ∀ m : Later w, m.val.cell? ⟨b, o + i * 2 + 1, none⟩ = some (.int .i64 y) := fun m => later_old m hc2
  have f2 : ∀ m : Later w, m.val.cell? ⟨bs, 0, none⟩ = some (.slice (some ⟨b, o, none⟩) n c) := fun m => later_old m hs
  have f3 : ∀ m : Later w, m.val.cell? ⟨bo, 0, none⟩ = some (.int .i64 off) := fun m => later_old m ho
  go_enter Try.func87, Try.ntmps87
  go_wp2
  refine wp_region_later (by kernel_rfl) (by kernel_rfl) ?_
  repeat (go_big_quiet_step ((go_at_call 77; exact Calls.later (end_any x y _ HP.out))))
  refine wpQuiet_nil ?_
  rintro _ ⟨⟨wq, hq⟩, rfl⟩
  go_wp2
  go_ret
  exact ⟨rfl, hq⟩

theorem search_any (bs bo : Nat) (A : Option Addr) (n c : Nat) (l : List (Int × Int)) (off : Int) (w : World) (h : Exs w w.heap.size A n c l) (hn : n ≤ 1000000) (hv : Va (-1) l)
    (hs : w.cell? ⟨bs, 0, none⟩ = some (.slice A n c)) (ho : w.cell? ⟨bo, 0, none⟩ = some (.int .i64 off)) :
    Calls Try.prog 86 #[.int .i64 n, .func (.func 87) #[] #[.pointer (some ⟨bs, 0, none⟩), .pointer (some ⟨bo, 0, none⟩)]] w fun e w' => ∃ i : Nat, e = .returned (.int .i64 i) ∧ Idx l off i ∧ Below w.heap.size w w' := by
  have HB := Lib.hid h
  have HV := Lib.hid hv
  have HS := Lib.hid hs
  have HO := Lib.hid ho
  clear h hv hs ho
  go_enter Try.func86, Try.ntmps86
  go_wp2
  go_loopw [5, 6] (fun iv jv wr => ∃ (i j : Nat), i ≤ j ∧ j ≤ n ∧ iv = .int .i64 i ∧ jv = .int .i64 j ∧ Hid ((∀ k x, k < i → l[k]? = some x → x.1 + x.2 ≤ off) ∧ (∀ k x, j ≤ k → l[k]? = some x → off < x.1 + x.2) ∧ Below w.heap.size w wr)) (fun iv jv _ => (intOf jv).toNat - (intOf iv).toNat)
  case atStart => exact ⟨0, n, by omega, by omega, rfl, rfl, Lib.hid ⟨fun k x hk => by omega, fun k x hk hx => by have := (List.getElem?_eq_some_iff.1 hx).1; have := HB.out.len; omega, Below.refl _ _⟩⟩
  case round =>
    obtain ⟨i, j, hij, hjn, rfl, rfl, hh⟩ := hrel
    by_cases hlt : i < j
    · have hm : (i + j) / 2 < n := by omega
      obtain ⟨m, hmm⟩ : ∃ m : Nat, m = (i + j) / 2 := ⟨_, rfl⟩
      have E2 : Hid (((i : Int) + (j : Int)) / 2 = (m : Int)) := Lib.hid (by omega)
      obtain ⟨b, o, x, y, hx, rfl, hb, hc1, hc2, x0, x1, y0, y1⟩ := HB.out.at_ (k := m) (by omega)
      have HX := Lib.hid hx
      have H := Lib.hid (after_yes bs bo _ n c l off wr m x y (HB.out.go hh.out.2.2) (by omega) hx (va_at HV.out hx).1
        ((hh.out.2.2.cell (p := ⟨bs, 0, none⟩) (lt_of_some HS.out)).trans HS.out) ((hh.out.2.2.cell (p := ⟨bo, 0, none⟩) (lt_of_some HO.out)).trans HO.out))
      have him : i ≤ m := by omega
      have hmj : m < j := by omega
      have hj2 : m + 1 - i ≤ j - i := by omega
      clear hc1 hc2 hx hmm hm
      go_wp2_with fail
      rw [E2.out]
      clear E2
      by_cases hoff : off < x + y
      · rw [decide_eq_true hoff] at H
        refine H.out.mono ?_
        rintro e w' ⟨rfl, hb'⟩
        clear H
        go_wp2
        go_roundw
        case rel => exact ⟨i, m, him, by omega, rfl, rfl, Lib.hid ⟨hh.out.1, idx_hi HV.out HX.out hoff, Below.then hh.out.2.2 hb' (Nat.le_refl _)⟩⟩
        case measure => simp [intOf]; omega
      · rw [decide_eq_false hoff] at H
        refine H.out.mono ?_
        rintro e w' ⟨rfl, hb'⟩
        clear H
        go_wp2
        go_roundw
        case rel => exact ⟨m + 1, j, by omega, hjn, by go_num, rfl, Lib.hid ⟨idx_lo HV.out HX.out (by simp only; omega), hh.out.2.1, Below.then hh.out.2.2 hb' (Nat.le_refl _)⟩⟩
        case measure => simp [intOf]; omega
    · obtain rfl : i = j := by omega
      go_wp2
      go_ret
      exact ⟨i, rfl, ⟨by have := HB.out.len; omega, hh.out.1, hh.out.2.1⟩, hh.out.2.2⟩

/-- What the search says: the place of the first extent that ends behind an offset. -/
def Found (w : World) (l : List (Int × Int)) (off : Int) (e : Ending) (w' : World) : Prop := ∃ i : Nat, e = .returned (.int .i64 i) ∧ Idx l off i ∧ Below w.heap.size w w'
theorem find_any (A : Option Addr) (n c : Nat) (l : List (Int × Int)) (off : Int) (w : World) (h : Exs w w.heap.size A n c l) (hn : n ≤ 1000000) (hv : Va (-1) l) :
    Calls Try.prog 79 #[.slice A n c, .int .i64 off] w (Found w l off) := by
  have hb2 : Below w.heap.size w ((w.alloc (.cells #[.slice A n c] 34)).alloc (.cells #[.int .i64 off] 3)) := ((Below.refl _ _).alloc (Nat.le_refl _) _).alloc (by simp) _
  have c1 : ((w.alloc (.cells #[.slice A n c] 34)).alloc (.cells #[.int .i64 off] 3)).cell? ⟨w.heap.size, 0, none⟩ = some (.slice A n c) := cell_under (cell_alloc rfl) _
  have c2 : ((w.alloc (.cells #[.slice A n c] 34)).alloc (.cells #[.int .i64 off] 3)).cell? ⟨(w.alloc (.cells #[.slice A n c] 34)).heap.size, 0, none⟩ = some (.int .i64 off) := cell_alloc rfl
  have H := Lib.hid (search_any _ _ A n c l off _ (h.go hb2) hn hv c1 c2)
  have HB2 := Lib.hid hb2
  have hmf : ∀ (fn : Fn) (first cap : Array Value) (w : World), (Instr.makeFunc fn first cap).run Try.prog w = .ok (.func fn first cap) w := fun _ _ _ _ => rfl
  have hsz : (w.alloc (.cells #[.slice A n c] 34)).heap.size = w.heap.size + 1 := by simp
  rw [hsz] at H
  clear h hv hb2 c1 c2 hsz
  go_enter Try.func79, Try.ntmps79
  go_wp2_with fail
  refine H.out.mono ?_
  rintro e w' ⟨i, rfl, hi, hb'⟩
  have HI := Lib.hid hi
  clear hi H
  go_wp2
  go_ret
  exact ⟨i, rfl, HI.out, Below.then HB2.out hb' (Nat.le_refl _)⟩
end Go.Proofs.Ytfchccgajcjbbaa
