/-
  Contract of the inner ParseUint of strconv at base 10 and 24 bits: the number, or one of its two errors. Conditions: the text is not empty and has at most 1000 bytes.
-/
import Derived.Test.YtbmajggpfojnkaaDoorText
import Derived.Lib.ConvBytes
import Derived.Laws.Strings3
import Derived.Laws.Closers25
import Derived.Laws.Closers25b
import Derived.BigCall
import Derived.BigGuard
namespace Go.Proofs.YtbmajggpfojnkaaDoor
open Go.ChangeShapes Go.WideShapes Go.ChangeAt Go.RowKit
set_option maxRecDepth 100000

theorem isEmpty_f (s : ByteArray) (h : s.size ≠ 0) : s.toList.isEmpty = false := by
  rw [← decide_eq_emptyBytes]
  exact decide_eq_false (fun h2 => h (by rw [h2]; rfl))
theorem at_list (s : ByteArray) (k : Nat) (h : k < s.size) : s.data.toList.drop k = s[k] :: s.data.toList.drop (k + 1) := by
  have : k < s.data.toList.length := by rw [← Lib.size_eq]; exact h
  rw [List.drop_eq_getElem_cons this]
  rfl
/-- How the inner ParseUint answers at 24 bits: a number and no error, or one of its two errors. -/
def UintPost (l : List UInt8) (w : World) (e : Ending) (w' : World) : Prop :=
  ((∃ u : Nat, Lib.parseUintB 24 l = .ok u ∧ e = .returned (.tuple #[.int .u64 u, .nilIface])) ∨
    ((∀ u, Lib.parseUintB 24 l ≠ .ok u) ∧ ∃ v n : Int, (n = 1 ∨ n = 2) ∧ e = .returned (.tuple #[.int .u64 v, .iface 68 (.int .i64 n)]))) ∧ Below w.heap.size w w'
theorem post_ok {l : List UInt8} {w w' : World} {u : Nat} (hne : l ≠ []) (h : Lib.parseUintM 16777215 0 l = .ok u) (hb : Below w.heap.size w w') : UintPost l w (.returned (.tuple #[.int .u64 u, .nilIface])) w' :=
  ⟨.inl ⟨u, by unfold Lib.parseUintB; rw [if_neg hne]; exact h, rfl⟩, hb⟩
theorem post_bad {l : List UInt8} {w w' : World} {v n : Int} (hne : l ≠ []) (hn : n = 1 ∨ n = 2) (h : ∀ u, Lib.parseUintM 16777215 0 l ≠ .ok u) (hb : Below w.heap.size w w') : UintPost l w (.returned (.tuple #[.int .u64 v, .iface 68 (.int .i64 n)])) w' :=
  ⟨.inr ⟨fun u hu => h u (by unfold Lib.parseUintB at hu; rw [if_neg hne] at hu; exact hu), v, n, hn, rfl⟩, hb⟩

set_option maxHeartbeats 4000000 in
/-- The inner ParseUint at base 10 and 24 bits, at a text that is not empty. -/
theorem pu24 (t : ByteArray) (h0 : 0 < t.size) (hmax : t.size ≤ 1000) (w : World) :
    Calls Tryd.prog 37 #[.string t, .int .i64 10, .int .i64 24] w (UintPost t.data.toList w) := by
  have hne : t.data.toList ≠ [] := fun h => by rw [Lib.size_eq, h] at h0; simp at h0
  have hem := isEmpty_f t (by omega)
  have hcv := Lib.run_convert_string_bytes (P := Tryd.prog) w 9 63 5 t (u := .string) Tryd.underlying9 Tryd.underlying63 Tryd.underlying5
  have hcell : ∀ j (hj : j < t.size), (Lib.bytesWorld w 5 t).cell? ⟨w.heap.size, j, none⟩ = some (.int .u8 t[j].toNat) := fun j hj => by
    rw [Lib.bytesWorld_cell w 5 t j hj, ← Lib.getD_at t j hj]
  have hbel := Lib.bytesWorld_below w 5 t
  generalize Lib.bytesWorld w 5 t = W at *
  have OK := Lib.hid (fun u hu => post_ok (u := u) hne hu hbel)
  have BAD := Lib.hid (fun v n hn hu => post_bad (v := v) (n := n) hne hn hu hbel)
  have htop : IntKind.u64.wrap (IntKind.u64.wrap 16777216 - 1) = 16777215 := by
    rw [IntKind.wrap_u64, IntKind.wrap_u64]; rfl
  clear hne hbel
  generalize hl : t.data.toList = l at *
  have HL := Lib.hid hl
  clear hl
  go_enter Tryd.func37, Tryd.ntmps37
  go_wp2
  go_loop [12, 13, 101] (fun vu vn vi => ∃ (k : Nat) (n : Int), vu = .bool false ∧ vn = .int .u64 n ∧ vi = .int .i64 k ∧ k ≤ t.size ∧ 0 ≤ n ∧ n ≤ 16777215 ∧ Hid (Lib.parseUintM 16777215 0 l = Lib.parseUintM 16777215 n.toNat (l.drop k)))
    (fun _ _ vi => t.size - (intOf vi).toNat)
  case atStart => exact ⟨0, 0, rfl, rfl, rfl, by omega, by omega, by omega, Lib.hid rfl⟩
  case round =>
    obtain ⟨k, n, rfl, rfl, rfl, hk, n0, n1, hh⟩ := hrel
    by_cases hkn : k < t.size
    · have hc := hcell k hkn
      have hd := hh.out
      rw [← HL.out, at_list t k hkn, HL.out] at hd
      have h256 : t[k].toNat < 256 := t[k].toNat_lt
      generalize t[k] = c at hc hd h256
      clear hcell hh
      by_cases hdig : 48 ≤ c.toNat ∧ c.toNat ≤ 57
      · obtain ⟨d0, d1⟩ := hdig
        rw [Lib.parseUintM, if_pos ⟨d0, d1⟩, if_neg (show ¬ 1844674407370955162 ≤ n.toNat by omega)] at hd
        by_cases hov : 16777215 < n.toNat * 10 + (c.toNat - 48)
        · rw [if_pos hov] at hd
          have HB := Lib.hid (fun v => BAD.out v 1 (.inl rfl) (fun u hu => by rw [hd] at hu; cases hu))
          have iov : (16777215 : Int) < n * 10 + ((c.toNat : Int) - 48) := by omega
          clear hov hd OK BAD
          go_wp2
          go_ret2
          exact HB.out _
        · rw [if_neg hov] at hd
          have HD := Lib.hid hd
          have iov : n * 10 + ((c.toNat : Int) - 48) ≤ 16777215 := by omega
          have ilo : 0 ≤ n * 10 + ((c.toNat : Int) - 48) := by omega
          have HE : Hid (n.toNat * 10 + (c.toNat - 48) = (n * 10 + ((c.toNat : Int) - 48)).toNat) := Lib.hid (by omega)
          clear hov hd
          go_wp2
          exact ⟨⟨k + 1, n * 10 + ((c.toNat : Int) - 48), rfl, rfl, by go_num, by omega, ilo, iov, Lib.hid (by rw [← HE.out]; exact HD.out)⟩, by simp [intOf]; omega⟩
      · rw [Lib.parseUintM, if_neg hdig] at hd
        have HB := Lib.hid (fun v => BAD.out v 2 (.inr rfl) (fun u hu => by rw [hd] at hu; cases hu))
        clear hd OK BAD
        have x0 := bits_lo_u8 .or (c.toNat : Int) 32
        have x1 := bits_hi_u8 .or (c.toNat : Int) 32
        have y0 := bits_lo_u8 .or 95 32
        have y1 := bits_hi_u8 .or 95 32
        go_wp2_with (go_at_call 47; refine (Any.internal_strconv_lower { Tryd.lays287 with } _ _).mono ?_; rintro e w' ⟨rfl, rfl⟩)
        all_goals go_ret2
        all_goals exact HB.out _
    · have hd := hh.out
      rw [List.drop_eq_nil_of_le (by rw [← HL.out, ← Lib.size_eq]; omega)] at hd
      have HO := OK.out n.toNat hd
      rw [show ((n.toNat : Nat) : Int) = n by omega] at HO
      have HO := Lib.hid HO
      clear hd hh OK BAD hcell
      go_wp2
      go_ret2
      exact HO.out
end Go.Proofs.YtbmajggpfojnkaaDoor
