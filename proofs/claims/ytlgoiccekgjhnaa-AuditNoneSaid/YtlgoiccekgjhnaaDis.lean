/-
  Contracts of the functions that compute and check chains of digests, of package digest and of the reference: what they return is what the plain functions of the text Fnv say; nothing that was there changes. Conditions: at most a thousand records of at most a thousand bytes each.
-/
import Derived.Test.YtlgoiccekgjhnaaSus
import Derived.Laws.OwnMore
namespace Go.Proofs.Ytlgoiccekgjhnaa
open Go.ChangeShapes Go.WideShapes Go.ChangeAt Go.RowKit
set_option maxHeartbeats 400000
set_option maxRecDepth 100000

/-- A slice of slices of bytes that a function is handed. -/
structure Arg (w : World) (A : Option Addr) (n c : Nat) (rs : List Rec) : Prop where
  row : Row w w.heap.size A n c (rv rs)
  recs : Recs w w.heap.size rs
theorem Arg.go {w w' : World} {A : Option Addr} {n c : Nat} {rs : List Rec} (h : Arg w A n c rs) (hb : Below w.heap.size w w') : Arg w' A n c rs := ⟨h.row.go hb, h.recs.go hb⟩
theorem Arg.take {w : World} {A : Option Addr} {n c k : Nat} {rs : List Rec} (h : Arg w A n c rs) (hk : k ≤ n) : Arg w A k c (rs.take k) :=
  ⟨by have := h.row.take hk; rwa [show (rv rs).take k = rv (rs.take k) by simp [rv, List.map_take]] at this, h.recs.take k⟩
theorem Arg.len {w : World} {A : Option Addr} {n c : Nat} {rs : List Rec} (h : Arg w A n c rs) : rs.length = n := by have := h.row.len; rwa [rv_len] at this
/-- The bytes of the records. -/
def bs (rs : List Rec) : List (List Int) := rs.map Rec.l
theorem bs_take (rs : List Rec) (k : Nat) : bs (rs.take k) = (bs rs).take k := by simp [bs, List.map_take]
theorem bs_len (rs : List Rec) : (bs rs).length = rs.length := by simp [bs]
/-- No record is longer than m. -/
def Short (m : Nat) (rs : List Rec) : Prop := ∀ r ∈ rs, r.n ≤ m

/-- What the check of the size says. -/
def Few (w : World) (n : Nat) (rs : List Rec) (e : Ending) (w' : World) : Prop := ∃ b : Bool, e = .returned (.bool b) ∧ w = w' ∧ (b = true → n ≤ 12 ∧ Short 60 rs)
/-- The digests so far, and zeros behind. -/
def part (ls : List (List Int)) (k : Nat) : List Int := dig start (ls.take k) ++ List.replicate (ls.length - k) 0
theorem part_len (ls : List (List Int)) (k : Nat) (h : k ≤ ls.length) : (part ls k).length = ls.length := by
  simp [part, dig_len]; omega
theorem part_set (ls : List (List Int)) (k : Nat) (h : k < ls.length) : (part ls k).set k (chn (lst start (ls.take k)) (ls.getD k [])) = part ls (k + 1) := by
  have e1 : (dig start (ls.take k)).length = k := by rw [dig_len, List.length_take]; omega
  unfold part
  rw [List.set_append, if_neg (by omega), e1, Nat.sub_self, show ls.length - k = (ls.length - (k + 1)) + 1 by omega, List.replicate_succ, List.set_cons_zero,
    List.take_succ_eq_append_getElem h, dig_app]
  simp [dig, List.getD, h]
theorem lst_take (ls : List (List Int)) (k : Nat) (h : k < ls.length) : chn (lst start (ls.take k)) (ls.getD k []) = lst start (ls.take (k + 1)) := by
  rw [List.take_succ_eq_append_getElem h, lst_app]
  simp [lst, List.getD, h]
theorem getD_bs {rs : List Rec} {k : Nat} {r : Rec} (h : rs[k]? = some r) : (bs rs).getD k [] = r.l := by simp [bs, List.getD, h]
theorem mem_of {rs : List Rec} {k : Nat} {r : Rec} (h : rs[k]? = some r) : r ∈ rs := List.mem_of_getElem? h

theorem Own.at_ {t : TypeId} {w : World} {base g n c : Nat} {vs : List Value} (h : Own t w base (.slice (some ⟨g, 0, none⟩) n c) vs) {k : Nat} (hk : k < vs.length) :
    base ≤ g ∧ g < w.heap.size ∧ vs.length = n ∧ w.cell? ⟨g, k, none⟩ = vs[k]? ∧ w.frozen? ⟨g, k, none⟩ = false ∧ ∀ u : Value, Own t (w.setCell ⟨g, k, none⟩ u) base (.slice (some ⟨g, 0, none⟩) n c) (vs.set k u) := by
  obtain ⟨g', cap, e, h1, h2, h3, h4, h5⟩ := h.store hk
  injection e with e1 e2 e3
  injection e1 with e1
  injection e1 with e1
  subst e1
  exact ⟨h1, h2, e2.symm, h3, h4, h5⟩

theorem dig_take_succ (ls : List (List Int)) (k : Nat) (h : k < ls.length) : dig start (ls.take k) ++ [chn (lst start (ls.take k)) (ls.getD k [])] = dig start (ls.take (k + 1)) := by
  rw [List.take_succ_eq_append_getElem h, dig_app]
  simp [dig, List.getD, h]

theorem digestsR_any (A : Option Addr) (n c : Nat) (rs : List Rec) (w : World) (h : Arg w A n c rs) (hn : n ≤ 1000) (hs : Short 1000 rs) :
    Calls Try.prog 51 #[.slice A n c] w (MadeV 23 w (iv .u64 (dig start (bs rs)))) := by
  obtain ⟨i0, hi, hz0, hz1, hz2⟩ := info_parts info64
  have HA := Lib.hid h
  have HS := Lib.hid hs
  have hcap := h.row.cap
  have hsm := h.row.small
  have HL : Hid ((bs rs).length = n) := Lib.hid (by rw [bs_len, h.len])
  have HN := Lib.hid (sumR_any none 0 0 [] w (B := 0) Row.none_ (fun x hx => by cases hx) (by omega))
  rw [fnv_nil] at HN
  unfold maxLen at hsm
  clear h hs
  go_enter Try.func51, Try.ntmps51
  go_wp2_with fail
  refine HN.out.mono ?_
  rintro e w1 ⟨rfl, rfl⟩
  clear HN
  go_wp2
  go_loopw [3, 4, 5] (fun v x i wr => ∃ (k : Nat) (d : Int), k ≤ n ∧ i = .int .i64 k ∧ x = .int .u64 d ∧ Hid (d = lst start ((bs rs).take k)) ∧ Hid (Own 23 wr w.heap.size v (iv .u64 (dig start ((bs rs).take k)))) ∧ Hid (Below w.heap.size w wr)) (fun _ _ i _ => n - (intOf i).toNat)
  case atStart => exact ⟨0, start, Nat.zero_le _, rfl, rfl, Lib.hid (by simp [lst]), Lib.hid (by rw [List.take_zero]; exact Own.nil _ _ _), Lib.hid (Below.refl _ _)⟩
  case round =>
    obtain ⟨k, d, hk, rfl, rfl, HD, HO, HW⟩ := hrel
    by_cases hlt : k < n
    · have HR := Lib.hid (HA.out.row.go HW.out)
      have HC := Lib.hid (HA.out.recs.go HW.out)
      obtain ⟨b, o, r, hr, rfl, hbw, hcell, hrow, hfit⟩ := HR.out.rec_ HC.out hlt
      have hrn : r.n ≤ 900000 := by have := HS.out r (mem_of hr); omega
      have HK := Lib.hid (chainR_any d r.A r.n r.c r.l wr hrow hfit hrn)
      have hkl : k < (bs rs).length := by rw [HL.out]; exact hlt
      have HX : Hid (chn d r.l = lst start ((bs rs).take (k + 1))) := Lib.hid (by rw [← lst_take _ _ hkl, getD_bs hr, HD.out])
      have HY : Hid (dig start ((bs rs).take k) ++ [chn d r.l] = dig start ((bs rs).take (k + 1))) := Lib.hid (by rw [← dig_take_succ _ _ hkl, getD_bs hr, HD.out])
      have hln : (iv .u64 (dig start ((bs rs).take k))).length ≤ 1000 := by rw [iv_len, dig_len, List.length_take]; omega
      clear hr hrow hfit hkl hrn
      generalize chn d r.l = nx at *
      go_wp2_with fail
      refine HK.out.mono ?_
      rintro e w2 ⟨rfl, hb2⟩
      have HB2 : Hid (Below w.heap.size w w2) := Lib.hid (HW.out.trans (hb2.mono HW.out.size))
      have HO2 := Lib.hid (HO.out.below hb2)
      clear HK hb2 HO HW HR HC hcell
      go_wp2_with (first
        | (at_builtin; go_must (refine wpList_app _ rfl (.tmp 19) (.tmp 21) 95 rfl Try.underlying95 hi hz0 rfl hz1 (by omega) (HO2.out.alloc _) rfl (Row.new w2 (iv .u64 [_]) _ _ rfl (by unfold maxLen; simp [iv])) rfl iv_one (by have e : (iv .u64 [nx]).length = 1 := rfl; rw [e]; omega) (by have := HB2.out.size; simp; omega) ?_)
           intro v3 w3 ho3 hb3))
      rw [iv_app, HY.out] at ho3
      exact ⟨⟨k + 1, nx, by omega, by go_num, rfl, HX, Lib.hid ho3, Lib.hid ((HB2.out.alloc HB2.out.size _).trans hb3)⟩, by simp [intOf]; omega⟩
    · obtain rfl : k = n := by omega
      have HE : Hid ((bs rs).take k = bs rs) := Lib.hid (List.take_of_length_le (by rw [HL.out]; omega))
      go_wp2
      go_ret
      refine ⟨_, rfl, ?_, HW.out⟩
      have := HO.out
      rwa [HE.out] at this

/-- What a function that checks a chain says. -/
def PairE (w : World) (p : Int × Int) (e : Ending) (w' : World) : Prop := e = .returned (.tuple #[.int .i64 p.1, .int .i64 p.2]) ∧ Below w.heap.size w w'
theorem pair_of {w w' : World} {p : Int × Int} {a b : Int} (h : p = (a, b)) (hb : Below w.heap.size w w') : PairE w p (.returned (.tuple #[.int .i64 a, .int .i64 b])) w' := by
  subst h; exact ⟨rfl, hb⟩

end Go.Proofs.Ytlgoiccekgjhnaa
