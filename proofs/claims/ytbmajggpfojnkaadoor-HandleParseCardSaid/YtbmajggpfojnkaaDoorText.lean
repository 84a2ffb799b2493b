/-
  Contracts of handle.Format and of cutting a text at a slash: what they return, and that they only add new blocks to memory. Conditions: the table of powers of ten and the two error variables of strconv lie in memory as the program lays them.
-/
import Derived.Test.YtbmajggpfojnkaaDoorShelf
import Derived.Test.YtbmajggpfojnkaaDoorDigits
import Derived.Test.YtbmajggpfojnkaaDoorWalks
import Derived.WalkKit
import Derived.ProofKit
import Derived.Outline
import Derived.WalkLawsBesides
import Derived.WalkSmall
import Derived.RegionTactic
import Derived.ChangeAlike
import Derived.Lib.Hide
import Derived.Lib.AppendIntMem
import Derived.Lib.Strings
import Derived.Lib.AtoiErrMem
namespace Go.Proofs.YtbmajggpfojnkaaDoor
open Go.ChangeShapes Go.WideShapes Go.ChangeAt Go.RowKit
set_option maxHeartbeats 400000
set_option maxRecDepth 100000

/-- What the walks ask of memory: the table of powers, and the two error variables of strconv. -/
structure Env (w : World) : Prop where
  tab : Lib.TabIs Tryd.prog w "internal/strconv.uint64pow10" .u64 Lib.pow10Tab
  syn : ∃ tp p, w.cell? ⟨2, 0, none⟩ = some (.iface tp p)
  rng : ∃ tp p, w.cell? ⟨3, 0, none⟩ = some (.iface tp p)
theorem Env.size {w : World} (h : Env w) : 3 < w.heap.size := by
  obtain ⟨tp, p, hc⟩ := h.rng
  exact Lib.lt_of_cell hc
theorem Env.below {w w' : World} (h : Env w) (hb : Below w.heap.size w w') : Env w' := by
  have hz := h.size
  refine ⟨?_, ?_, ?_⟩
  · exact var?_below (g := 1) hb (by kernel_rfl) (by omega) h.tab
  · obtain ⟨tp, p, hc⟩ := h.syn
    exact ⟨tp, p, (hb.cell (p := ⟨2, 0, none⟩) (show 2 < w.heap.size by omega)).trans hc⟩
  · obtain ⟨tp, p, hc⟩ := h.rng
    exact ⟨tp, p, (hb.cell (p := ⟨3, 0, none⟩) (show 3 < w.heap.size by omega)).trans hc⟩

theorem ret_str {s t : ByteArray} (h : s = t) : Ending.returned (.string s) = .returned (.string t) := by rw [h]
theorem ba_append (a b : List UInt8) : (⟨a.toArray⟩ : ByteArray) ++ ⟨b.toArray⟩ = ⟨(a ++ b).toArray⟩ := by
  apply ByteArray.ext
  simp

theorem itoa_any (n : Int) (h0 : 0 ≤ n) (h1 : n ≤ 4294967295) (w : World) (hE : Env w) :
    Calls Tryd.prog 26 #[.int .i64 n] w fun e w' => e = .returned (.string ⟨(Lib.decDigits n.toNat).toArray⟩) ∧ Below w.heap.size w w' := by
  have h := Any.strconv_Itoa Tryd.laysM171 n (by omega) (by omega) w hE.tab
  refine h.mono ?_
  rintro e w' ⟨rfl, k, os, rfl⟩
  have e1 : Lib.itoa n = Lib.decDigits n.toNat := by unfold Lib.itoa; rw [if_neg (by omega)]
  rw [e1]
  exact ⟨rfl, Lib.below_grow _ _ (Nat.le_refl _) k os⟩

theorem format_any (x : Int) (h0 : 0 ≤ x) (h1 : x < 18446744073709551616) (w : World) (hE : Env w) :
    Calls Tryd.prog 20 #[.int .u64 x] w fun e w' => e = .returned (.string ⟨(fmtP (x % 16777216).toNat (x / 16777216 % 4294967296).toNat (x / 72057594037927936).toNat).toArray⟩) ∧ Below w.heap.size w w' := by
  have HS := Lib.hid (slot_any x h0 h1)
  have HG := Lib.hid (gen_any x h0 h1)
  have HT := Lib.hid (tag_any x h0 h1)
  obtain ⟨a, ha, a0, a1⟩ : ∃ a, x % 16777216 = a ∧ 0 ≤ a ∧ a ≤ 4294967295 := ⟨_, rfl, by omega, by omega⟩
  obtain ⟨b, hb, b0, b1⟩ : ∃ b, x / 16777216 % 4294967296 = b ∧ 0 ≤ b ∧ b ≤ 4294967295 := ⟨_, rfl, by omega, by omega⟩
  obtain ⟨c, hc, c0, c1⟩ : ∃ c, x / 72057594037927936 = c ∧ 0 ≤ c ∧ c ≤ 4294967295 := ⟨_, rfl, by omega, by omega⟩
  rw [ha, hb, hc]
  rw [ha] at HS
  rw [hb] at HG
  rw [hc] at HT
  clear ha hb hc
  have la := digits_len a.toNat (by omega)
  have lb := digits_len b.toNat (by omega)
  have lc := digits_len c.toNat (by omega)
  unfold fmtP
  have HA := Lib.hid (itoa_any a a0 a1)
  have HB := Lib.hid (itoa_any b b0 b1)
  have HC := Lib.hid (itoa_any c c0 c1)
  generalize Lib.decDigits a.toNat = la' at *
  generalize Lib.decDigits b.toNat = lb' at *
  generalize Lib.decDigits c.toNat = lc' at *
  go_enter Tryd.func20, Tryd.ntmps20
  go_wp2_with fail
  refine (HS.out _).mono ?_
  rintro e w' ⟨rfl, rfl⟩
  go_wp2_with fail
  refine (HA.out _ hE).mono ?_
  rintro e w1 ⟨rfl, hb1⟩
  have hE1 := hE.below hb1
  go_wp2_with fail
  refine (HG.out _).mono ?_
  rintro e w' ⟨rfl, rfl⟩
  go_wp2_with fail
  refine (HB.out _ hE1).mono ?_
  rintro e w2 ⟨rfl, hb2⟩
  have hE2 := hE1.below hb2
  go_wp2_with fail
  refine (HT.out _).mono ?_
  rintro e w' ⟨rfl, rfl⟩
  go_wp2_with fail
  refine (HC.out _ hE2).mono ?_
  rintro e w3 ⟨rfl, hb3⟩
  go_wp2
  go_ret
  refine ⟨ret_str ?_, (hb1.trans (hb2.mono hb1.size)).trans (hb3.mono (Nat.le_trans hb1.size hb2.size))⟩
  rw [show (⟨#[47]⟩ : ByteArray) = ⟨[47].toArray⟩ from rfl]
  simp only [ba_append]
  simp
/-- strings.Cut at a slash. -/
theorem cut33 (s : ByteArray) (w : World) (hs : s.size ≤ 1000) :
    Calls Tryd.prog 33 #[.string s, .string ⟨#[47]⟩] w fun e w' => ∃ ok : Bool, e = .returned (.tuple #[.string ⟨(cut1 s.data.toList).toArray⟩, .string ⟨(cut2 s.data.toList).toArray⟩, .bool ok]) ∧ Below w.heap.size w w' := by
  have hsz := Lib.size_eq s
  have hge := Lib.indexByte_ge s.data.toList 47
  have hi := Any.stringslite_Index_one Tryd.lays219 s 47
  by_cases hm : Lib.indexByte s.data.toList 47 = -1
  · obtain ⟨e1, e2⟩ := cut_miss _ hm
    rw [e1, e2, Lib.mk_data]
    have HI : Hid (∀ w, Calls Tryd.prog 36 #[.string s, .string ⟨#[47]⟩] w fun e w' => e = .returned (.int .i64 (-1)) ∧ w' = w) := Lib.hid (by rw [hm] at hi; exact hi)
    clear hm hi e1 e2 hge hsz
    go_enter Tryd.func33, Tryd.ntmps33
    go_wp2_with (first | (go_at_call 36; refine (HI.out _).mono ?_; rintro e w' ⟨rfl, rfl⟩) | fail)
    go_ret3
    exact ⟨false, rfl, Below.refl _ _⟩
  · obtain ⟨i, hii⟩ : ∃ i : Nat, Lib.indexByte s.data.toList 47 = i := ⟨(Lib.indexByte s.data.toList 47).toNat, by omega⟩
    obtain ⟨k1, e1, e2⟩ := cut_hit _ i hii
    have HI : Hid (∀ w, Calls Tryd.prog 36 #[.string s, .string ⟨#[47]⟩] w fun e w' => e = .returned (.int .i64 (i : Int)) ∧ w' = w) := Lib.hid (by rw [hii] at hi; exact hi)
    have h1 : (⟨(cut1 s.data.toList).toArray⟩ : ByteArray) = s.extract 0 i := by rw [e1, Lib.extract_eq]; simp
    have h2 : (⟨(cut2 s.data.toList).toArray⟩ : ByteArray) = s.extract (i + 1) s.size := by
      rw [e2, Lib.extract_eq, List.take_of_length_le]
      rw [List.length_drop, hsz]
      exact Nat.le_refl _
    have k2 : i < s.size := by omega
    rw [h1, h2]
    clear hm hi e1 e2 hge hii k1 h1 h2 hsz
    go_enter Tryd.func33, Tryd.ntmps33
    go_wp2_with (first | (go_at_call 36; refine (HI.out _).mono ?_; rintro e w' ⟨rfl, rfl⟩) | fail)
    go_region
    all_goals
      go_wp2
      go_ret3
      exact ⟨true, rfl, below_drewN (Below.refl _ _) 1⟩
theorem cut_any (s : ByteArray) (w : World) (hs : s.size ≤ 1000) :
    Calls Tryd.prog 27 #[.string s, .string ⟨#[47]⟩] w fun e w' => ∃ ok : Bool, e = .returned (.tuple #[.string ⟨(cut1 s.data.toList).toArray⟩, .string ⟨(cut2 s.data.toList).toArray⟩, .bool ok]) ∧ Below w.heap.size w w' := by
  have HI := Lib.hid (fun w => cut33 s w hs)
  generalize cut1 s.data.toList = p1 at *
  generalize cut2 s.data.toList = p2 at *
  go_enter Tryd.func27, Tryd.ntmps27
  go_wp2_with fail
  refine (HI.out _).mono ?_
  rintro e w' ⟨ok, rfl, hb⟩
  go_wp2
  go_ret3
  exact ⟨ok, rfl, hb⟩
end Go.Proofs.YtbmajggpfojnkaaDoor
