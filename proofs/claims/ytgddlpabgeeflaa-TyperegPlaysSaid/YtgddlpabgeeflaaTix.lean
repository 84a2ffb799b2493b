/-
  Slices of types in memory; contracts of the search for a type in a list of types. No conditions beyond those that each theorem states.
-/
import Derived.Test.YtgddlpabgeeflaaTec
namespace Go.Proofs.Ytgddlpabgeeflaa
open Go.ChangeShapes Go.WideShapes Go.RowKit
set_option linter.unusedVariables false
set_option maxHeartbeats 4000000
set_option maxRecDepth 100000

/-- A type: its length, where its fields lie, and its fields. -/
structure Ty where
  n : Int
  A : Option Addr
  m : Nat
  c : Nat
  l : List (Int × Int)
/-- What it reads as. -/
def Ty.t (r : Ty) : Int × List (Int × Int) := (r.n, r.l)
def tys (rs : List Ty) : List (Int × List (Int × Int)) := rs.map Ty.t
/-- How a type lies in cells. -/
def tyE : Enc Ty where
  k := 2
  ev := fun r => [.int .i64 r.n, .slice r.A r.m r.c]
  len := fun _ => rfl
  one := fun x u hu => by
    simp only [List.mem_cons, List.not_mem_nil, or_false] at hu
    rcases hu with rfl | rfl <;> rfl
  pos := by omega
/-- The fields of each lie below block B. -/
def Flw (w : World) (B : Nat) (rs : List Ty) : Prop := ∀ r ∈ rs, Exs w B r.A r.m r.c r.l
section
variable {w w' : World} {B B' n c : Nat} {A : Option Addr} {rs ss : List Ty}
theorem tys_len : (tys rs).length = rs.length := by simp [tys]
theorem tys_app : tys (rs ++ ss) = tys rs ++ tys ss := by simp [tys]
theorem tys_take {k : Nat} : tys (rs.take k) = (tys rs).take k := by simp [tys, List.map_take]
theorem tys_at {k : Nat} {r : Ty} (h : rs[k]? = some r) : (tys rs)[k]? = some r.t := by simp [tys, h]
theorem Flw.below (h : Flw w B rs) (hb : Below B w w') : Flw w' B rs := fun r hr => (h r hr).below hb
theorem Flw.more (h : Flw w B rs) (hB : B ≤ B') : Flw w B' rs := fun r hr => (h r hr).more hB
theorem Flw.go (h : Flw w w.heap.size rs) (hb : Below w.heap.size w w') : Flw w' w'.heap.size rs := (h.below hb).more hb.size
theorem Flw.at_ (h : Flw w B rs) {k : Nat} {r : Ty} (hr : rs[k]? = some r) : Exs w B r.A r.m r.c r.l := h r (List.mem_of_getElem? hr)
/-- The type at a place. -/
theorem Kws.ty (h : Kws tyE w B A n c rs) {i : Nat} (hi : i < n) : ∃ b o r, rs[i]? = some r ∧ A = some ⟨b, o, none⟩ ∧ b < B ∧ w.cell? ⟨b, o + i * 2, none⟩ = some (.int .i64 r.n) ∧ w.cell? ⟨b, o + i * 2 + 1, none⟩ = some (.slice r.A r.m r.c) := by
  obtain ⟨b, o, r, h1, h2, h3, h4⟩ := h.at_ hi
  exact ⟨b, o, r, h1, h2, h3, h4 0 _ rfl, h4 1 _ rfl⟩
end
/-- The first place of a type in a list, or -1. -/
def ixT (x : Int × List (Int × Int)) (T : List (Int × List (Int × Int))) : Int := if x ∈ T then (T.idxOf x : Int) else -1
theorem ixT_at {x : Int × List (Int × Int)} {T : List (Int × List (Int × Int))} {j : Nat} (h : x ∉ T.take j) (hx : T[j]? = some x) : ixT x T = j := by
  have hm : x ∈ T := List.mem_of_getElem? hx
  unfold ixT
  rw [if_pos hm]
  have hj : j < T.length := (List.getElem?_eq_some_iff.1 hx).1
  have e : T = T.take j ++ x :: T.drop (j + 1) := by
    have h1 := List.take_append_drop j T
    rw [List.drop_eq_getElem_cons hj] at h1
    rw [(List.getElem?_eq_some_iff.1 hx).2] at h1
    exact h1.symm
  have : T.idxOf x = j := by
    rw [e, List.idxOf_append, if_neg h, List.length_take]
    simp
    omega
  rw [this]
theorem ixT_no {x : Int × List (Int × Int)} {T : List (Int × List (Int × Int))} (h : x ∉ T) : ixT x T = -1 := if_neg h
theorem ixT_lt {x : Int × List (Int × Int)} {T : List (Int × List (Int × Int))} (h : x ∈ T) : 0 ≤ ixT x T ∧ ixT x T < T.length := by
  unfold ixT
  rw [if_pos h]
  have := List.idxOf_lt_length_of_mem h
  omega
theorem not_next {x y : Int × List (Int × Int)} {T : List (Int × List (Int × Int))} {j : Nat} (h : x ∉ T.take j) (hy : T[j]? = some y) (hne : x ≠ y) : x ∉ T.take (j + 1) := by
  rw [List.take_add_one, hy]
  simp
  exact ⟨h, hne⟩

theorem same1_any (n n' : Int) (A A' : Option Addr) (m m' c c' tb : Nat) (l l' : List (Int × Int)) (w : World) (h : Exs w w.heap.size A m c l) (h' : Exs w w.heap.size A' m' c' l') (hb : TyB w tb n' A' m' c') :
    Calls Try.prog 23 #[.agg #[.int .i64 n, .slice A m c], .pointer (some ⟨tb, 0, none⟩)] w (Says w (.bool (eqT n n' l l'))) := by
  have hb0 : Below w.heap.size w (w.alloc (.cells #[.int .i64 n, .slice A m c] 35)) := (Below.refl _ _).alloc (Nat.le_refl _) _
  have HB0 := Lib.hid hb0
  have HT1 := Lib.hid (TyB.new (w := w) (n := n) (A := A) (m := m) (c := c))
  have HU1 := Lib.hid (hb.go hb0)
  have HQ := Lib.hid (equal_any n n' A A' m m' c c' l l' _ (h.go hb0) (h'.go hb0))
  have c0 := HT1.out.cell0
  have c1 := HT1.out.cell1
  have d0 := HU1.out.cell0
  have d1 := HU1.out.cell1
  generalize eqT n n' l l' = eb at *
  clear h h' hb hb0
  go_enter Try.func23, Try.ntmps23
  go_wp2_with fail
  refine HQ.out.mono ?_
  rintro e w2 ⟨rfl, hb2⟩
  have HB2 := Lib.hid (Below.then HB0.out hb2 (by simp))
  clear HQ hb2
  go_wp2
  go_ret
  exact ⟨rfl, HB2.out⟩

theorem index_any (A : Option Addr) (k c : Nat) (rs : List Ty) (n : Int) (A' : Option Addr) (m' c' tb : Nat) (l : List (Int × Int)) (w : World) (h : Kws tyE w w.heap.size A k c rs) (hf : Flw w w.heap.size rs) (h' : Exs w w.heap.size A' m' c' l) (hb : TyB w tb n A' m' c') (hk : k ≤ 1000000) :
    Calls Try.prog 22 #[.slice A k c, .func (.func 23) #[] #[.pointer (some ⟨tb, 0, none⟩)]] w (Says w (.int .i64 (ixT (n, l) (tys rs)))) := by
  have HK := Lib.hid h
  have HF := Lib.hid hf
  have HX := Lib.hid h'
  have HB := Lib.hid hb
  have HLN := Lib.hid h.len
  obtain ⟨v, hv⟩ : ∃ v, ixT (n, l) (tys rs) = v := ⟨_, rfl⟩
  rw [hv]
  have HV := Lib.hid hv
  have hcap := h.cap
  have hsm := h.small
  unfold maxLen at hsm
  clear h hf h' hb hv
  go_enter Try.func22, Try.ntmps22
  go_wp2
  go_loopw [8] (fun kv wr => ∃ (j : Nat), j ≤ k ∧ kv = .int .i64 j ∧ Hid ((n, l) ∉ (tys rs).take j ∧ Below w.heap.size w wr)) (fun kv _ => k - (intOf kv).toNat)
  case atStart => exact ⟨0, by omega, rfl, Lib.hid ⟨by simp, Below.refl _ _⟩⟩
  case round =>
    obtain ⟨j, hj, rfl, hh⟩ := hrel
    by_cases hjm : j < k
    · have hj1 : (j : Int) < (k : Int) := by omega
      obtain ⟨b, o, r, hr, rfl, hb, g0, g1⟩ := (HK.out.go hh.out.2).ty hjm
      have hrx := (HF.out.go hh.out.2).at_ hr
      have HC := Lib.hid (same1_any r.n n r.A A' r.m m' r.c c' tb r.l l wr hrx (HX.out.go hh.out.2) (HB.out.go hh.out.2))
      have HT := Lib.hid (tys_at hr)
      have HJ := Lib.hid hh.out.1
      have HBB := Lib.hid hh.out.2
      obtain ⟨rn, rA, rm, rc, rl⟩ := r
      simp only [Ty.t] at HT HC g0 g1
      clear hr hrx hh hb
      go_wp2_with fail
      refine HC.out.mono ?_
      rintro e w2 ⟨rfl, hb2⟩
      have HB2 := Lib.hid (Below.then HBB.out hb2 (Nat.le_refl _))
      clear hb2 HC HBB g0 g1
      by_cases he : (n, l) = (rn, rl)
      · have het : eqT rn n rl l = true := by
          cases he
          exact eqT_self _ _
        have HVV : Hid (v = (j : Int)) := Lib.hid (by rw [← HV.out]; exact ixT_at HJ.out (by rw [HT.out, he]))
        rw [het]
        clear he het
        go_wp2
        go_ret
        exact ⟨by rw [HVV.out]; rfl, HB2.out⟩
      · have het : eqT rn n rl l = false := by
          unfold eqT
          rw [decide_eq_false_iff_not]
          rintro ⟨rfl, rfl⟩
          exact he rfl
        have HN := Lib.hid (not_next HJ.out HT.out he)
        rw [het]
        clear he het
        go_wp2
        go_roundw
        case rel => exact ⟨j + 1, by omega, by go_num, Lib.hid ⟨HN.out, HB2.out⟩⟩
        case measure => simp [intOf]; omega
    · obtain rfl : j = k := by omega
      have HVV : Hid (v = -1) := Lib.hid (by
        rw [← HV.out]
        refine ixT_no fun hm => hh.out.1 ?_
        rw [List.take_of_length_le (by rw [tys_len, HLN.out]; exact Nat.le_refl _)]
        exact hm)
      go_wp2
      go_ret
      exact ⟨by rw [HVV.out]; rfl, hh.out.2⟩
end Go.Proofs.Ytgddlpabgeeflaa
