/-
  The walk of the law HandleFormat: it returns true at every word and only adds new blocks to memory. Conditions: the listed package variables lie in memory as the program lays them.
-/
import Derived.Test.YtbmajggpfojnkaaDoorDec
import Derived.Test.YtbmajggpfojnkaaDoorRows
import Derived.LaidMore
import Derived.Stop.LaidErr
import Derived.Lib.LaidTab
import Derived.OpenShut
namespace Go.Proofs.YtbmajggpfojnkaaDoor
open Go.ChangeShapes Go.WideShapes Go.ChangeAt Go.RowKit
set_option maxRecDepth 100000
set_option maxHeartbeats 1000000
/-- What the rows of HandleFormat and HandleParse list. -/
def laid5 : List (String × DataW Unit) := [("math/bits.deBruijn32tab", Rows.laid_math_bits_deBruijn32tab), ("math/bits.deBruijn64tab", Rows.laid_math_bits_deBruijn64tab), ("internal/strconv.uint64pow10", Rows.laid_internal_strconv_uint64pow10), ("strconv.ErrRange", Rows.laid_strconv_ErrRange), ("strconv.ErrSyntax", Rows.laid_strconv_ErrSyntax)]
theorem u75 : Tryd.prog.underlying 75 = some (.array 20 24) := Tryd.underlying75
theorem star : "*" ++ "errors.errorString" = "*errors.errorString" := by decide
theorem row87 (u : TypeId) (h : Tryd.prog.typeName? 3 u = some "*errors.errorString") : u = 87 :=
  typeName_ptr_named (nm := "errors.errorString") (by rw [star]; kernel_rfl) (by kernel_rfl) (by decide) u (by rw [star]; exact h)
theorem pow_is : Rows.laid_internal_strconv_uint64pow10 = (Lib.tabData .u64 Lib.pow10Tab : DataW Unit) := by rfl
theorem env_of {W : World} (h : laidMetH Tryd.prog laid5 W) : Env W := by
  rw [MakeChecks.laidMetH_plain _ _ _ (by kernel_rfl)] at h
  have h3 := h.tail.tail
  have h4 := h3.tail
  have h5 := h4.tail
  rw [pow_is] at h3
  have ht := Lib.tabIs_of_head (g := 1) (t := 75) (e := 24) (n := 20) (by kernel_rfl) (by kernel_rfl) u75 Tryd.underlying24 (by kernel_rfl) (by kernel_rfl) h3
  obtain ⟨a1, s1, v1, _⟩ := laid_sentinel h4 (g := 3) (ti := 54) (by kernel_rfl) (by kernel_rfl) Tryd.underlying54 row87 Tryd.underlying87 Tryd.underlying89 rfl rfl Tryd.underlying9 (by kernel_rfl) (by kernel_rfl)
  obtain ⟨a2, s2, v2, _⟩ := laid_sentinel h5 (g := 2) (ti := 54) (by kernel_rfl) (by kernel_rfl) Tryd.underlying54 row87 Tryd.underlying87 Tryd.underlying89 rfl rfl Tryd.underlying9 (by kernel_rfl) (by kernel_rfl)
  refine ⟨ht, ⟨87, .pointer (some a2), ?_⟩, ⟨87, .pointer (some a1), ?_⟩⟩
  · have := World.var?_cell (g := 2) (by kernel_rfl) v2 0
    simpa using this
  · have := World.var?_cell (g := 3) (by kernel_rfl) v1 0
    simpa using this
theorem format_walk (x : Int) (h0 : 0 ≤ x) (h1 : x < 18446744073709551616) (w : World) (hE : Env w) :
    Calls Tryd.prog 7 #[.int .u64 x] w fun e w' => e = .returned (.bool true) ∧ Below w.heap.size w w' := by
  have HF := Lib.hid (format_any x h0 h1)
  have HR := Lib.hid (formatR_any x h0 h1)
  obtain ⟨a, ha, a1⟩ : ∃ a : Nat, x % 16777216 = a ∧ a ≤ 16777215 := ⟨(x % 16777216).toNat, by omega, by omega⟩
  obtain ⟨b, hb, b1⟩ : ∃ b : Nat, x / 16777216 % 4294967296 = b ∧ b ≤ 4294967295 := ⟨(x / 16777216 % 4294967296).toNat, by omega, by omega⟩
  obtain ⟨c, hc, c1⟩ : ∃ c : Nat, x / 72057594037927936 = c ∧ c ≤ 255 := ⟨(x / 72057594037927936).toNat, by omega, by omega⟩
  have hx := word_parts x
  rw [ha, hb, hc] at HF HR hx
  clear ha hb hc
  simp only [Int.toNat_natCast] at HF HR
  have hl := fmtP_len a b c a1 b1 c1
  have hp := parse_fmt a b c a1 b1 c1
  have e1 : parseW (fmtP a b c) = x := by unfold parseW; rw [hp]; exact hx
  have e2 : parseE (fmtP a b c) = 0 := by unfold parseE; rw [hp]
  have HP := Lib.hid (fun w hE => parse_any ⟨(fmtP a b c).toArray⟩ (by show (fmtP a b c).toArray.size ≤ 1000; simp; omega) w hE)
  simp only [e1, e2] at HP
  generalize fmtP a b c = l at *
  clear e1 e2 hp hx hl
  go_enter Tryd.func7, Tryd.ntmps7
  go_wp2_with fail
  refine (HF.out _ hE).mono ?_
  rintro e w1 ⟨rfl, q1⟩
  go_wp2_with fail
  refine (HP.out _ (hE.below q1)).mono ?_
  rintro e w2 ⟨rfl, q2⟩
  go_wp2_with fail
  refine (awake_any _).mono ?_
  rintro e w' ⟨rfl, rfl⟩
  go_wp2_with fail
  refine (HR.out _).mono ?_
  rintro e w' ⟨rfl, rfl⟩
  go_wp2
  go_ret
  exact ⟨rfl, below_chain q1 q2⟩
theorem handleFormat_walk (x : Int) (h : (Lit.int .u64 x).wf = true) (w : World) (hL : laidMetH Tryd.prog laid5 w) :
    Calls Tryd.prog 7 #[.int .u64 x] w fun e w' => e = .returned (.bool true) ∧ Below w.heap.size w w' := by
  have hb := bounds_u64 h
  exact format_walk x hb.1 (by omega) w (env_of hL)
end Go.Proofs.YtbmajggpfojnkaaDoor
