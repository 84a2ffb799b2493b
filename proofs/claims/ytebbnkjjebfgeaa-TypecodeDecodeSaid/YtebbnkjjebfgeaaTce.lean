/-
  Contracts of package typecode's writing functions. Conditions: at most forty fields; numbers of at most 65536.
-/
import Derived.Test.YtebbnkjjebfgeaaTcp
import Derived.Test.YtebbnkjjebfgeaaWge
import Derived.Test.YtebbnkjjebfgeaaLyc
import Derived.Test.YtebbnkjjebfgeaaFld
namespace Go.Proofs.Ytebbnkjjebfgeaa
open Go.ChangeShapes Go.WideShapes Go.RowKit
set_option linter.unusedVariables false
set_option maxHeartbeats 4000000
set_option maxRecDepth 100000

/-- The encodings of numbers, one behind the other. -/
def encN : List Int → List Int
  | [] => []
  | x :: l => enc x.toNat ++ encN l
theorem encN_app : ∀ {l m : List Int}, encN (l ++ m) = encN l ++ encN m
  | [], _ => rfl
  | x :: l, m => by simp only [List.cons_append, encN]; rw [encN_app]; simp
theorem encN_next {l : List Int} {i : Nat} (h : i < l.length) : encN (l.take (i + 1)) = encN (l.take i) ++ enc (l.getD i 0).toNat := by
  rw [List.take_succ_eq_append_getElem h, encN_app]
  simp [encN, List.getD, h]
theorem encN_len : ∀ {l : List Int}, (∀ x ∈ l, 0 ≤ x ∧ x ≤ 65536) → (encN l).length ≤ 3 * l.length
  | [], _ => Nat.le_refl _
  | x :: l, h => by
    have h1 := h x (by simp)
    have h2 := enc_len3 (n := x.toNat) (by omega)
    have h3 := encN_len (l := l) (fun y hy => h y (by simp [hy]))
    simp only [encN, List.length_append, List.length_cons]
    omega
theorem putNumbers_any (A : Option Addr) (n c : Nat) (l : List Int) (A2 : Option Addr) (m c2 : Nat) (xs : List Int) (w : World) (h : Bts w w.heap.size A n c l) (h2 : Row w w.heap.size A2 m c2 (iv .i64 xs))
    (hn : n ≤ 100000) (hm : 0 < m) (hm2 : m ≤ 100) (hx : ∀ x ∈ xs, 0 ≤ x ∧ x ≤ 65536) :
    Calls Try.prog 20 #[.slice A n c, .slice A2 m c2] w (Made w (l ++ encN xs)) := by
  have hcap := h.cap
  have hsm := h.small
  have hcap2 := h2.cap
  have hsm2 := h2.small
  unfold maxLen at hsm hsm2
  have HL := Lib.hid h.len
  have HXL : Hid (xs.length = m) := Lib.hid (by have := h2.len; rwa [iv_len] at this)
  have HB := Lib.hid h
  have HR := Lib.hid h2
  have HX := Lib.hid hx
  clear h h2 hx
  go_enter Try.func20, Try.ntmps20
  go_wp2
  go_loopw [0, 9] (fun bv iv_ wr => ∃ (k : Nat), k ≤ m ∧ iv_ = .int .i64 k ∧ Hid (∃ A n c, bv = .slice A n c ∧ Bts wr wr.heap.size A n c (l ++ encN (xs.take k)) ∧ Below w.heap.size w wr ∧ (0 < k → OwnB wr w.heap.size bv (l ++ encN (xs.take k))))) (fun _ iv_ _ => m - (intOf iv_).toNat)
  case atStart => exact ⟨0, by omega, rfl, Lib.hid ⟨A, n, c, rfl, by simpa [encN] using HB.out, Below.refl _ _, fun h => absurd h (by omega)⟩⟩
  case round =>
    obtain ⟨k, hk, rfl, hh⟩ := hrel
    by_cases hlt : k < m
    · obtain ⟨A', n', c', rfl, hb, hbel, _⟩ := hh.out
      have hrow := HR.out.below hbel
      obtain ⟨b, o, rfl, _, hcell⟩ := hrow.int hlt
      have hxk : k < xs.length := by rw [HXL.out]; exact hlt
      have hxb := HX.out (xs.getD k 0) (by simp [List.getD, hxk])
      have HN := Lib.hid (encN_next hxk)
      have hlen : n' ≤ 100000 + 3 * m := by
        have h1 := hb.len
        have h3 := encN_len (l := xs.take k) (fun x hx => HX.out x (List.mem_of_mem_take hx))
        rw [List.length_append, HL.out] at h1
        rw [List.length_take] at h3
        omega
      have HP := Lib.hid (putUint_any A' n' c' _ (xs.getD k 0) wr hb (by omega) hxb.1 (by omega))
      have HBL := Lib.hid hbel
      obtain ⟨x, hxx⟩ : ∃ x, xs.getD k 0 = x := ⟨_, rfl⟩
      rw [hxx] at hcell hxb HN HP
      obtain ⟨hx0, hx1⟩ := hxb
      clear hh hb hbel hrow hxx
      go_wp2_with fail
      refine HP.out.mono ?_
      rintro e w2 ⟨v2, rfl, ho2, hb2⟩
      obtain ⟨A3, n3, c3, rfl, hr3⟩ := ho2.shape
      have HF := Lib.hid (And.intro (ho2.down HBL.out.size) (And.intro hr3 (Below.then HBL.out hb2 (Nat.le_refl _))))
      clear ho2 hr3 hb2 HP
      go_wp2
      go_roundw
      case rel =>
        obtain ⟨f1, f2, f3⟩ := HF.out
        refine ⟨k + 1, by omega, by go_num, Lib.hid ⟨_, _, _, rfl, ?_, f3, fun _ => ?_⟩⟩
        · rw [HN.out, ← List.append_assoc]; exact f2
        · rw [HN.out, ← List.append_assoc]; exact f1
      case measure => simp [intOf]; omega
    · obtain rfl : k = m := by omega
      obtain ⟨A', n', c', rfl, hb, hbel, ho⟩ := hh.out
      have HO := Lib.hid (ho hm)
      have HBL := Lib.hid hbel
      clear hh hb hbel ho
      go_wp2
      go_ret
      refine ⟨_, rfl, ?_, HBL.out⟩
      have := HO.out
      rwa [List.take_of_length_le (by rw [HXL.out]; exact Nat.le_refl _)] at this

/-- A new row of two numbers. -/
theorem row_two (w : World) (x y : Int) : Row (w.alloc (.cells #[.int .i64 x, .int .i64 y] 3)) (w.alloc (.cells #[.int .i64 x, .int .i64 y] 3)).heap.size (some ⟨w.heap.size, 0, none⟩) 2 2 (iv .i64 [x, y]) := by
  have := Row.new w (iv .i64 [x, y]) #[.int .i64 x, .int .i64 y] 3 rfl (by simp [iv, maxLen])
  simpa [iv] using this
theorem Bts.grow {w w' : World} {B n c : Nat} {A : Option Addr} {l : List Int} (h : Bts w w.heap.size A n c l) (hb : Below w.heap.size w w') : Bts w' w'.heap.size A n c l := h.go hb
/-- What Encode returns. -/
def EncE (w : World) (n : Int) (l : List (Int × Int)) (e : Ending) (w' : World) : Prop :=
  ∃ v, e = .returned (.tuple #[v, .int .i64 (chk n l)]) ∧ OwnB w' w.heap.size v (encO n l) ∧ Below w.heap.size w w'
theorem encode_any (n : Int) (A : Option Addr) (m c : Nat) (l : List (Int × Int)) (w : World) (h : Exs w w.heap.size A m c l) (hm : m ≤ 40) :
    Calls Try.prog 11 #[.agg #[.int .i64 n, .slice A m c]] w (EncE w n l) := by
  have hb0 : Below w.heap.size w (w.alloc (.cells #[.int .i64 n, .slice A m c] 24)) := (Below.refl _ _).alloc (Nat.le_refl _) _
  have HB0 := Lib.hid hb0
  have HT0 := Lib.hid (TyB.new (w := w) (n := n) (A := A) (m := m) (c := c))
  have HX0 := Lib.hid h
  have hcap := h.cap
  have hsm := h.small
  have HLN := Lib.hid h.len
  have HCK := Lib.hid (check_any n A m c l _ (h.go hb0) hm)
  have HE : Hid (encO n l = if chk n l = 0 then encT n l else []) := Lib.hid rfl
  have HET : Hid (encT n l = enc n.toNat ++ (enc m ++ encF l)) := Lib.hid (by unfold encT; rw [h.len])
  have HK := Lib.hid (fun h0 => chk_0 (n := n) (l := l) h0)
  unfold maxLen at hsm
  have c1 := HT0.out.cell1
  have c0 := HT0.out.cell0
  have HEE : Hid (∀ (W : World) (v : Value), OwnB W w.heap.size v (encO n l) → Below w.heap.size w W → EncE w n l (.returned (.tuple #[v, .int .i64 (chk n l)])) W) := Lib.hid (fun W v h1 h2 => ⟨_, rfl, h1, h2⟩)
  generalize hchk : chk n l = k at *
  clear h hb0
  go_enter Try.func11, Try.ntmps11
  go_wp2_with fail
  refine HCK.out.mono ?_
  generalize w.alloc (.cells #[.int .i64 n, .slice A m c] 24) = w1 at *
  have hts : w.heap.size < w1.heap.size := HT0.out.lt
  generalize htb : w.heap.size = tb at *
  rintro e w2 ⟨rfl, hb2⟩
  have HT2 := Lib.hid (HT0.out.go hb2)
  have HB2 := Lib.hid (Below.then HB0.out hb2 (by omega))
  have hs2 : tb < w2.heap.size := HT2.out.lt
  have htl : tb ≤ w.heap.size := by omega
  clear hb2 HT0 HB0 c0 c1 htb
  by_cases hz : k = 0
  · subst hz
    have HO : Hid (encO n l = enc n.toNat ++ (enc m ++ encF l)) := Lib.hid (by rw [HE.out, if_pos rfl, HET.out])
    obtain ⟨n0, n1, hml, hok, _⟩ := HK.out rfl
    rw [HLN.out] at hml
    have HLOW := Lib.hid (Low.of hok)
    have hmi : (m : Int) ≤ 32 := by omega
    have HR4 := Lib.hid (row_two w2 n m)
    have hb4 : Below w2.heap.size w2 (w2.alloc (.cells #[.int .i64 n, .int .i64 (m : Int)] 3)) := (Below.refl _ _).alloc (Nat.le_refl _) _
    have HT4 := Lib.hid (HT2.out.go hb4)
    have HB4 := Lib.hid (Below.then HB2.out hb4 (by omega))
    have c1 := HT2.out.cell1
    have c0 := HT2.out.cell0
    have HP := Lib.hid (putNumbers_any none 0 0 [] _ 2 2 [n, (m : Int)] _ Bts.none_ HR4.out (by omega) (by omega) (by omega) (fun x hx => by
      simp only [List.mem_cons, List.not_mem_nil, or_false] at hx
      rcases hx with rfl | rfl <;> omega))
    clear hok hb4 hchk HE HET HCK HK
    go_wp2_with fail
    refine HP.out.mono ?_
    rintro e w5 ⟨v5, rfl, ho5, hb5⟩
    have HT5 := Lib.hid (HT4.out.go hb5)
    have HB5 := Lib.hid (Below.then HB4.out hb5 htl)
    have HO5 : Hid (OwnB w5 tb v5 (enc n.toNat ++ (enc m ++ encF (l.take 0)))) := Lib.hid (by
      have := ho5.down (B := tb) (Nat.le_trans htl HB4.out.size)
      simpa [encN, encF] using this)
    have c1 := HT5.out.cell1
    clear ho5 hb5 HP HT4 HB4 HR4 HT2 HB2 c0
    go_wp2_with fail
    go_loopw [5, 23] (fun bv iv_ wq => ∃ (j : Nat), j ≤ m ∧ iv_ = .int .i64 j ∧ Hid (OwnB wq tb bv (enc n.toNat ++ (enc m ++ encF (l.take j))) ∧ Below tb w wq)) (fun _ iv_ _ => m - (intOf iv_).toNat)
    case atStart => exact ⟨0, by omega, rfl, Lib.hid ⟨HO5.out, HB5.out⟩⟩
    case round =>
      obtain ⟨j, hj, rfl, hh⟩ := hrel
      have HOJ := Lib.hid hh.out.1
      have HB := Lib.hid hh.out.2
      clear hh HO5 HB5 HT5
      by_cases hjm : j < m
      · have hj1 : (j : Int) < (m : Int) := by omega
        obtain ⟨b, o, u, v, hu, rfl, hb, g0, g1, _⟩ := (HX0.out.below HB.out).at_ hjm
        obtain ⟨hu0, hu1, hv0, hv1⟩ := HLOW.out _ (List.mem_of_getElem? hu)
        simp only at hu0 hu1 hv0 hv1
        have HNX := Lib.hid (encF_next hu)
        have hn4 := FdB.new (w := wr) (x := u) (y := v)
        have hb4 := (Below.refl wr.heap.size wr).alloc (Nat.le_refl _) (.cells #[.int .i64 u, .int .i64 v] 48)
        have HB4 := Lib.hid (Below.then HB.out hb4 htl)
        have f0 := hn4.cell0
        have f1 := hn4.cell1
        have hflt := hn4.lt
        have HOJ4 := Lib.hid (HOJ.out.below hb4)
        obtain ⟨A4, n4, c4, rfl, hbt4⟩ := HOJ4.out.shape
        have hlen4 : n4 ≤ 1000 := by
          have h1 := hbt4.len
          have h2 := enc_len3 (n := n.toNat) (by omega)
          have h3 := enc_len3 (n := m) (by omega)
          have h4 := encF_len (l := l.take j) (fun x hx => HLOW.out x (List.mem_of_mem_take hx))
          simp only [List.length_append] at h1
          rw [List.length_take] at h4
          omega
        have hcap4 := hbt4.cap
        have hsm4 := hbt4.small
        unfold maxLen at hsm4
        have hb6 : Below (wr.alloc (.cells #[.int .i64 u, .int .i64 v] 48)).heap.size (wr.alloc (.cells #[.int .i64 u, .int .i64 v] 48)) ((wr.alloc (.cells #[.int .i64 u, .int .i64 v] 48)).alloc (.cells #[.int .i64 u, .int .i64 v] 3)) := (Below.refl _ _).alloc (Nat.le_refl _) _
        have HB6 := Lib.hid (Below.then HB4.out hb6 htl)
        have HP := Lib.hid (putNumbers_any A4 n4 c4 _ _ 2 2 [u, v] _ (hbt4.go hb6) (row_two (wr.alloc (.cells #[.int .i64 u, .int .i64 v] 48)) u v) (by omega) (by omega) (by omega) (fun x hx => by
          simp only [List.mem_cons, List.not_mem_nil, or_false] at hx
          rcases hx with rfl | rfl <;> omega))
        rw [show (wr.alloc (.cells #[.int .i64 u, .int .i64 v] 48)).heap.size = wr.heap.size + 1 by simp] at HP
        clear hb4 hb6 hn4 hu hb hbt4
        go_wp2_with fail
        generalize wr.alloc (.cells #[.int .i64 u, .int .i64 v] 48) = w4 at *
        refine HP.out.mono ?_
        rintro e w7 ⟨v7, rfl, ho7, hb7⟩
        have HB7 := Lib.hid (Below.then HB6.out hb7 htl)
        have HO7 : Hid (OwnB w7 tb v7 (enc n.toNat ++ (enc m ++ encF (l.take (j + 1))))) := Lib.hid (by
          have := ho7.down (B := tb) (Nat.le_trans htl HB6.out.size)
          rw [HNX.out]
          simpa [encN] using this)
        clear ho7 hb7 HP HB6 HOJ4 HNX HOJ f0 f1
        go_wp2
        go_roundw
        case rel => exact ⟨j + 1, by omega, by go_num, Lib.hid ⟨HO7.out, HB7.out⟩⟩
        case measure => simp [intOf]; omega
      · obtain rfl : j = m := by omega
        have HF : Hid (OwnB wr tb _ (encO n l)) := Lib.hid (by
          have := HOJ.out
          rw [List.take_of_length_le (by rw [HLN.out]; exact Nat.le_refl _)] at this
          rw [HO.out]; exact this)
        have hjj : ¬ (j : Int) < (j : Int) := by omega
        go_wp2
        go_ret2
        exact HEE.out wr _ HF.out HB.out
  · have d1 : (k != 0) = true := by simpa using hz
    have HO : Hid (encO n l = []) := Lib.hid (by rw [HE.out, if_neg hz])
    clear hchk
    go_wp2
    go_ret2
    exact HEE.out w2 _ (by rw [HO.out]; exact OwnB.nil _ _) HB2.out
end Go.Proofs.Ytebbnkjjebfgeaa
