/-
  Contracts of New, Len and Lookup of the registry, of a nil registry, and of the model's Lookup. Conditions: at most 255 types registered.
-/
import Derived.Test.YtgddlpabgeeflaaReg
namespace Go.Proofs.Ytgddlpabgeeflaa
open Go.ChangeShapes Go.WideShapes Go.RowKit
set_option linter.unusedVariables false
set_option maxHeartbeats 4000000
set_option maxRecDepth 100000

theorem newT_any (w : World) : Calls Try.prog 9 #[] w fun e w' => e = .returned (.pointer (some ⟨w.heap.size, 0, none⟩)) ∧ w' = w.alloc (.cells #[.slice none 0 0] 54) := by
  go_enter Try.func9, Try.ntmps9
  go_wp2
  go_ret
  exact ⟨rfl, rfl⟩
theorem lenT_any (w : World) (c : Nat → Nat) (k base p : Nat) (T : List (Int × List (Int × Int))) (hr : Reg w c k base p T) :
    Calls Try.prog 15 #[.pointer (some ⟨p, 0, none⟩)] w (Same w (.int .i64 T.length)) := by
  obtain ⟨v, rs, h1, h2, h3, h4, h5, h6⟩ := hr.ex
  obtain ⟨Av, nv, cv, rfl, hks⟩ := h2.shape
  have hnv : (nv : Int) = T.length := by rw [← h6, tys_len, hks.len]
  have HLN := Lib.hid hnv
  have k0 : w.cell? ⟨p, 0, none⟩ = some (.slice Av nv cv) := cell_of_row w p 0 _ _ _ h1
  clear h1 h2 h3 h4 h5 h6 hks hnv
  go_enter Try.func15, Try.ntmps15
  go_wp2
  go_ret
  exact ⟨by rw [← HLN.out]; rfl, rfl⟩
theorem lenN_any (w : World) : Calls Try.prog 15 #[.pointer none] w (Same w (.int .i64 0)) := by
  go_enter Try.func15, Try.ntmps15
  go_wp2
  go_ret
  exact ⟨rfl, rfl⟩
theorem registerN_any (n : Int) (A : Option Addr) (m cc : Nat) (l : List (Int × Int)) (w : World) (h : Exs w w.heap.size A m cc l) (hm : m ≤ 40) :
    Calls Try.prog 12 #[.pointer none, .agg #[.int .i64 n, .slice A m cc]] w (Says w (.tuple #[.int .i64 0, .int .i64 (if chk n l = 0 then 1 else chk n l)])) := by
  have hb1 : Below w.heap.size w (w.alloc (.cells #[.int .i64 n, .slice A m cc] 35)) := (Below.refl _ _).alloc (Nat.le_refl _) _
  have HB1 := Lib.hid hb1
  have HT1 := Lib.hid (TyB.new (w := w) (n := n) (A := A) (m := m) (c := cc))
  have HC := Lib.hid (check_any n A m cc l _ (h.go hb1) hm)
  have c0 := HT1.out.cell0
  have c1 := HT1.out.cell1
  generalize chk n l = ck at *
  obtain ⟨rv, hrv⟩ : ∃ rv, (if ck = 0 then 1 else ck) = rv := ⟨_, rfl⟩
  rw [hrv]
  have HRV := Lib.hid hrv
  clear h hb1 hrv
  go_enter Try.func12, Try.ntmps12
  go_wp2_with fail
  refine HC.out.mono ?_
  rintro e w2 ⟨rfl, hb2⟩
  have HB2 := Lib.hid (Below.then HB1.out hb2 (by simp))
  clear HC hb2 HB1 HT1 c0 c1
  by_cases hck : ck = 0
  · subst hck
    have HV : Hid (rv = 1) := Lib.hid (by rw [← HRV.out, if_pos rfl])
    clear HRV
    go_wp2
    go_ret2
    exact ⟨by rw [HV.out]; rfl, HB2.out⟩
  · have hcb : (ck != 0) = true := by simpa using hck
    have HV : Hid (rv = ck) := Lib.hid (by rw [← HRV.out, if_neg hck])
    clear HRV
    go_wp2
    go_ret2
    exact ⟨by rw [HV.out]; rfl, HB2.out⟩
/-- Each has at most forty fields. -/
def Sm (T : List (Int × List (Int × Int))) : Prop := ∀ x ∈ T, x.2.length ≤ 40
/-- Which type a tag has, and which error it gives. -/
def lkT (T : List (Int × List (Int × Int))) (g : Int) : Int × List (Int × Int) := if g < 1 ∨ (T.length : Int) < g then (0, []) else T.getD (g - 1).toNat (0, [])
def lkE (T : List (Int × List (Int × Int))) (g : Int) : Int := if g < 1 ∨ (T.length : Int) < g then 20 else 0
/-- What Lookup says. -/
def LkE (w : World) (x : Int × List (Int × Int)) (er : Int) (e : Ending) (w' : World) : Prop :=
  ∃ A m c, e = .returned (.tuple #[.agg #[.int .i64 x.1, .slice A m c], .int .i64 er]) ∧ OwnE 45 w' w.heap.size (.slice A m c) x.2 ∧ Below w.heap.size w w'
theorem lookupN_any (g : Int) (w : World) : Calls Try.prog 16 #[.pointer none, .int .i64 g] w (LkE w (0, []) 20) := by
  have hb1 : Below w.heap.size w (w.alloc (.cells #[.int .i64 0, .slice none 0 0] 35)) := (Below.refl _ _).alloc (Nat.le_refl _) _
  have HB1 := Lib.hid hb1
  have HT1 := Lib.hid (TyB.new (w := w) (n := 0) (A := none) (m := 0) (c := 0))
  have H := Lib.hid (lenN_any (w.alloc (.cells #[.int .i64 0, .slice none 0 0] 35)))
  have c0 := HT1.out.cell0
  have c1 := HT1.out.cell1
  have c2 := HT1.out.fr 0
  have c3 := HT1.out.fr 1
  clear hb1
  by_cases hg : g < 1
  · have hd : decide (g < 1) = true := decide_eq_true hg
    go_enter Try.func16, Try.ntmps16
    go_wp2
    exact bodyPost_ret (v := .tuple #[.agg #[.int .i64 0, .slice none 0 0], .int .i64 20]) (by simp [results, Try.results16, go_sem, c0, c1]) rfl ⟨_, _, _, rfl, OwnE.nil _ _ _, HB1.out⟩
  · have hd : decide (g < 1) = false := decide_eq_false hg
    have hg2 : 0 < g := by omega
    go_enter Try.func16, Try.ntmps16
    go_wp2_with fail
    refine H.out.mono ?_
    rintro e w2 ⟨rfl, rfl⟩
    clear H
    go_wp2
    exact bodyPost_ret (v := .tuple #[.agg #[.int .i64 0, .slice none 0 0], .int .i64 20]) (by simp [results, Try.results16, go_sem, c0, c1]) rfl ⟨_, _, _, rfl, OwnE.nil _ _ _, HB1.out⟩
theorem lookup_any (g : Int) (w : World) (c : Nat → Nat) (k base p : Nat) (T : List (Int × List (Int × Int))) (hr : Reg w c k base p T) (hT : T.length ≤ 255) (hsm : Sm T) (hgb : -9223372036854775808 ≤ g ∧ g ≤ 9223372036854775807) :
    Calls Try.prog 16 #[.pointer (some ⟨p, 0, none⟩), .int .i64 g] w (LkE w (lkT T g) (lkE T g)) := by
  have hb1 : Below w.heap.size w (w.alloc (.cells #[.int .i64 0, .slice none 0 0] 35)) := (Below.refl _ _).alloc (Nat.le_refl _) _
  have HB1 := Lib.hid hb1
  have HT1 := Lib.hid (TyB.new (w := w) (n := 0) (A := none) (m := 0) (c := 0))
  have H := Lib.hid (lenT_any (w.alloc (.cells #[.int .i64 0, .slice none 0 0] 35)) c k base p T (hr.go hb1))
  have c0 := HT1.out.cell0
  have c1 := HT1.out.cell1
  have c2 := HT1.out.fr 0
  have c3 := HT1.out.fr 1
  obtain ⟨v, rs, h1, h2, h3, h4, h5, h6⟩ := (hr.go hb1).ex
  obtain ⟨Av, nv, cv, rfl, hks⟩ := h2.shape
  have hnv : nv = T.length := by rw [← h6, tys_len, hks.len]
  have HLN := Lib.hid hnv
  have hn255 : nv ≤ 255 := by omega
  have q0 : (w.alloc (.cells #[.int .i64 0, .slice none 0 0] 35)).cell? ⟨p, 0, none⟩ = some (.slice Av nv cv) := cell_of_row _ p 0 _ _ _ h1
  have hcapv := hks.cap
  have hsmv := hks.small
  unfold maxLen at hsmv
  obtain ⟨LT, hLT⟩ : ∃ LT, lkT T g = LT := ⟨_, rfl⟩
  obtain ⟨LE_, hLE⟩ : ∃ LE_, lkE T g = LE_ := ⟨_, rfl⟩
  rw [hLT, hLE]
  have HV := Lib.hid (And.intro hLT hLE)
  unfold lkT lkE at HV
  have HKS := Lib.hid hks
  have HFL : Hid (∀ r ∈ rs, Ex0 _ c r.A r.m r.c r.l) := Lib.hid h5
  have H6 := Lib.hid h6
  have HSM := Lib.hid hsm
  clear h1 h2 h3 h4 h5 h6 hks hnv hr hb1 hLT hLE hsm
  by_cases hg : g < 1
  · have hd : decide (g < 1) = true := decide_eq_true hg
    have HVV : Hid (LT = (0, []) ∧ LE_ = 20) := Lib.hid ⟨by rw [← HV.out.1, if_pos (.inl hg)], by rw [← HV.out.2, if_pos (.inl hg)]⟩
    go_enter Try.func16, Try.ntmps16
    go_wp2
    exact bodyPost_ret (v := .tuple #[.agg #[.int .i64 0, .slice none 0 0], .int .i64 20]) (by simp [results, Try.results16, go_sem, c0, c1]) rfl ⟨_, _, _, by rw [HVV.out.1, HVV.out.2], by rw [HVV.out.1]; exact OwnE.nil _ _ _, HB1.out⟩
  · have hd : decide (g < 1) = false := decide_eq_false hg
    by_cases hg2 : (T.length : Int) < g
    · have HVV : Hid (LT = (0, []) ∧ LE_ = 20) := Lib.hid ⟨by rw [← HV.out.1, if_pos (.inr hg2)], by rw [← HV.out.2, if_pos (.inr hg2)]⟩
      go_enter Try.func16, Try.ntmps16
      go_wp2_with fail
      refine H.out.mono ?_
      rintro e w2 ⟨rfl, rfl⟩
      clear H
      go_wp2
      exact bodyPost_ret (v := .tuple #[.agg #[.int .i64 0, .slice none 0 0], .int .i64 20]) (by simp [results, Try.results16, go_sem, c0, c1]) rfl ⟨_, _, _, by rw [HVV.out.1, HVV.out.2], by rw [HVV.out.1]; exact OwnE.nil _ _ _, HB1.out⟩
    · obtain ⟨i, rfl⟩ : ∃ i : Nat, g = (i : Int) + 1 := ⟨(g - 1).toNat, by omega⟩
      have hin : i < nv := by have := HLN.out; omega
      obtain ⟨b, o, r, hr, rfl, hb, g0, g1⟩ := HKS.out.ty hin
      have HX := Lib.hid (HFL.out r (List.mem_of_getElem? hr)).1
      have HVV : Hid (LT = r.t ∧ LE_ = 0) := Lib.hid ⟨by
        rw [← HV.out.1, if_neg (by omega), show ((i : Int) + 1 - 1).toNat = i by omega, List.getD_eq_getElem?_getD, ← H6.out, tys_at hr]
        rfl, by rw [← HV.out.2, if_neg (by omega)]⟩
      have hrm : r.m ≤ 40 := by
        have h8 := HSM.out r.t (by rw [← H6.out]; exact List.mem_of_getElem? (tys_at hr))
        have h9 := HX.out.len
        simp only [Ty.t] at h8
        omega
      obtain ⟨rn, rA, rm, rc_, rl⟩ := r
      simp only [Ty.t] at HVV g0 g1 HX hrm
      have hi0 : (0 : Int) ≤ (i : Int) := by omega
      have hi1 : (i : Int) < (nv : Int) := by omega
      have hi2 : IntKind.i64.wrap ((i : Int) + 1 - 1) = (i : Int) := by rw [IntKind.wrap_i64]; omega
      clear hr hg2 hb
      go_enter Try.func16, Try.ntmps16
      have hd2 : decide ((T.length : Int) < (i : Int) + 1) = false := decide_eq_false (by have := HLN.out; omega)
      go_wp2_with fail
      refine H.out.mono ?_
      rintro e w2 ⟨rfl, rfl⟩
      clear H
      go_wp2_with fail
      refine (cloneT_any rn rA rm rc_ rl _ HX.out (by omega)).mono ?_
      rintro e w3 ⟨A3, m3, c3', rfl, ho3, hb3⟩
      have HT3 := Lib.hid (HT1.out.go hb3)
      have d0 := HT3.out.cell0
      have d1 := HT3.out.cell1
      have d2 := HT3.out.fr 0
      have d3 := HT3.out.fr 1
      have HO4 : Hid (OwnE 45 ((w3.setCell ⟨w.heap.size, 0, none⟩ (.int .i64 rn)).setCell ⟨w.heap.size, 1, none⟩ (.slice A3 m3 c3')) w.heap.size (.slice A3 m3 c3') rl) := Lib.hid (OwnE.down ⟨ownsRow_setCell_below (ownsRow_setCell_below ho3.1 (by simp) _) (by simp) _, ho3.2⟩ (by simp))
      have HB4 : Hid (Below w.heap.size w ((w3.setCell ⟨w.heap.size, 0, none⟩ (.int .i64 rn)).setCell ⟨w.heap.size, 1, none⟩ (.slice A3 m3 c3'))) := Lib.hid (((Below.then HB1.out hb3 (Nat.le_refl _)).setCell (p := ⟨w.heap.size, 0, none⟩) (Nat.le_refl _) _).setCell (p := ⟨w.heap.size, 1, none⟩) (Nat.le_refl _) _)
      have k0 := (HT3.out.set (n' := rn) (A' := A3) (m' := m3) (c' := c3')).cell0
      have k1 := (HT3.out.set (n' := rn) (A' := A3) (m' := m3) (c' := c3')).cell1
      clear ho3 hb3 g0 g1 c0 c1 c2 c3 q0
      go_wp2
      exact bodyPost_ret (v := .tuple #[.agg #[.int .i64 rn, .slice A3 m3 c3'], .int .i64 0]) (by simp [results, Try.results16, go_sem, k0, k1]) rfl ⟨_, _, _, by rw [HVV.out.1, HVV.out.2], by rw [HVV.out.1]; exact HO4.out, HB4.out⟩
theorem Sm.nil : Sm [] := fun x hx => by cases hx
theorem Sm.rg {T : List (Int × List (Int × Int))} {x : Int × List (Int × Int)} (h : Sm T) (hx : x.2.length ≤ 40) : Sm (rgT T x) := by
  unfold rgT
  split
  · intro y hy
    rcases List.mem_append.1 hy with h1 | h1
    · exact h y h1
    · simp only [List.mem_singleton] at h1
      subst h1
      exact hx
  · exact h
theorem allT_any (p : Option Addr) (w : World) : Calls Try.prog 17 #[.pointer p] w fun e w' => e = .returned (.func (.func 28) #[] #[.pointer (some ⟨w.heap.size, 0, none⟩)]) ∧ w' = w.alloc (.cells #[.pointer p] 26) := by
  have hmf : ∀ (fn : Fn) (first cap : Array Value) (w : World), (Instr.makeFunc fn first cap).run Try.prog w = .ok (.func fn first cap) w := fun _ _ _ _ => rfl
  go_enter Try.func17, Try.ntmps17
  go_wp2
  go_ret
  exact ⟨rfl, rfl⟩
end Go.Proofs.Ytgddlpabgeeflaa
