/-
  The law ExtentsInsert as a walk: it returns true and changes nothing that was there. No conditions.
-/
import Derived.Test.YtolfcoaipcaoaaaAwake
import Derived.Test.YtolfcoaipcaoaaaInsR
import Derived.Test.YtolfcoaipcaoaaaOpen
namespace Go.Proofs.Ytolfcoaipcaoaaa
open Go.ChangeShapes Go.WideShapes Go.ChangeAt Go.RowKit
set_option maxHeartbeats 1600000
set_option maxRecDepth 100000

theorem i64_bd {n : Int} (h : (Lit.int .i64 n).wf = true) : -9223372036854775808 ≤ n ∧ n ≤ 9223372036854775807 := by
  have := Go.bounds_i64 h
  omega
theorem ins_len : ∀ {l : List (Int × Int)} {e : Int × Int}, (ins l e).length ≤ l.length + 1
  | [], e => by simp [ins]
  | x :: l, e => by
    simp only [ins]
    split
    · have := ins_len (l := l) (e := e)
      simp only [List.length_cons]
      omega
    split
    · have := ins_len (l := l) (e := (x.1, x.2 + e.2))
      simp only [List.length_cons]
      omega
    split <;> simp
theorem insR_len {l : List (Int × Int)} {e : Int × Int} : (insR l e).1.length ≤ l.length + 1 := by
  unfold insR
  split
  · split
    · exact ins_len
    · simp
  · simp

theorem extentsInsert_walk (a0 : Option Addr) (n0 c0 : Nat) (l : List (Int × Int)) (x y : Int) (a2 : Option Addr) (n2 c2 : Nat) (z2 : List Int) (off size : Int) (w : World)
    (h0 : IsExs w a0 n0 c0 l) (h1 : (Lit.int .i64 x).wf = true) (h1' : (Lit.int .i64 y).wf = true) (h2 : IsRow .u16 w a2 n2 c2 z2) (h3 : (Lit.int .u8 off).wf = true) (h4 : (Lit.int .u8 size).wf = true) :
    Calls Try.prog 4 #[.slice a0 n0 c0, .agg #[.int .i64 x, .int .i64 y], .slice a2 n2 c2, .int .u8 off, .int .u8 size] w fun e w' => e = .returned (.bool true) ∧ Below w.heap.size w w' := by
  obtain ⟨hr, hf⟩ := h2.row
  have hb0 : Below w.heap.size w (w.alloc (.cells #[.int .i64 x, .int .i64 y] 31)) := (Below.refl _ _).alloc (Nat.le_refl _) _
  have HL0 := Lib.hid (Exs.go h0 hb0)
  have HR0 := Lib.hid (hr.go hb0)
  have HF := Lib.hid hf
  have HB0 := Lib.hid hb0
  obtain ⟨x0, x1⟩ := i64_bd h1
  obtain ⟨y0, y1⟩ := i64_bd h1'
  obtain ⟨o0, o1⟩ := byte_bd h3
  obtain ⟨s0, s1⟩ := byte_bd h4
  have hcap := h0.cap
  have hsm := h0.small
  unfold maxLen at hsm
  have HE0 := Lib.hid (Box.new (w := w) (x := x) (y := y))
  clear h0 h1 h1' h2 h3 h4 hr hf hb0
  by_cases hn : n0 ≤ 20
  · go_enter Try.func4, Try.ntmps4
    go_wp2_with fail
    refine (few_any a0 n0 c0 _).mono ?_
    rintro e w1 ⟨rfl, rfl⟩
    rw [decide_eq_true hn]
    generalize w.alloc (.cells #[.int .i64 x, .int .i64 y] 31) = w0 at *
    have f0 := HE0.out.cell0
    have f1 := HE0.out.cell1
    go_wp2_with fail
    refine (insert_any a0 n0 c0 l x y w0 HL0.out (by omega) x0 x1 y0 y1).mono ?_
    rintro e w1 ⟨v1, rfl, ho, hb⟩
    obtain ⟨A1, n1, c1, rfl, hx⟩ := ho.shape
    have HX1 := Lib.hid hx
    have HL1 := Lib.hid (HL0.out.go hb); have HR1 := Lib.hid (HR0.out.go hb); have HE1 := Lib.hid (HE0.out.go hb); have HB1 := Lib.hid (Below.then HB0.out hb (Nat.le_refl _))
    clear ho hb hx f0 f1
    have f0 := HE1.out.cell0
    have f1 := HE1.out.cell1
    go_wp2_with fail
    refine (insertR_any a0 n0 c0 l x y w1 HL1.out (by omega) x0 x1 y0 y1).mono ?_
    rintro e w2 ⟨v2, rfl, ho, hb⟩
    obtain ⟨A2, n3, c3, rfl, hx⟩ := ho.shape
    have HX2 := Lib.hid hx
    have HX1 := Lib.hid (HX1.out.go hb); have HR2 := Lib.hid (HR1.out.go hb); have HB2 := Lib.hid (Below.then HB1.out hb (Nat.le_refl _))
    clear ho hb hx f0 f1 HE1 HE0
    generalize (insR l (x, y)).1 = l1 at *
    generalize (insR l (x, y)).2 = r1 at *
    have HS : Hid ((mkSet (z2.take n2)).length ≤ 12) := Lib.hid (set_len _)
    generalize hL : z2.take n2 = L at *
    clear hL
    have o2 : -2 ≤ off - 2 := by omega
    have o3 : off - 2 ≤ 253 := by omega
    have s2 : 0 ≤ size % 12 := by omega
    have s3 : size % 12 < 12 := by omega
    go_wp2_with fail
    generalize off - 2 = fo at *
    generalize size % 12 = fl at *
    have HE3 := Lib.hid (Box.new (w := w2) (x := fo) (y := fl))
    have hb3 : Below w2.heap.size w2 (w2.alloc (.cells #[.int .i64 fo, .int .i64 fl] 31)) := (Below.refl _ _).alloc (Nat.le_refl _) _
    have HX1 := Lib.hid (HX1.out.go hb3); have HX2 := Lib.hid (HX2.out.go hb3); have HR3 := Lib.hid (HR2.out.go hb3); have HB3 := Lib.hid (Below.then HB2.out hb3 (Nat.le_refl _))
    generalize w2.alloc (.cells #[.int .i64 fo, .int .i64 fl] 31) = w3 at *
    clear hb3 HR0 HR1 HR2 HL0 HL1
    have HS3 := Lib.hid (set_any a2 n2 c2 L w3.drew (HR3.out.go (below_drewN (Below.refl _ _) 1)) HF.out)
    have k0 := HE3.out.cell0
    have k1 := HE3.out.cell1
    go_region_held3 (fun w' => w'.cell? ⟨w2.heap.size, 0, none⟩ = some (.int .i64 fo) ∧ w'.cell? ⟨w2.heap.size, 1, none⟩ = some (.int .i64 fl))
      (first
        | exact ⟨k0, k1⟩
        | exact ⟨HE8.out.cell0, HE8.out.cell1⟩
        | exact ⟨HE7.out.cell0, HE7.out.cell1⟩)
      (first
        | (go_at_call 14
           refine HS3.out.mono ?_
           rintro e w7 ⟨v7, rfl, ho7, hb7⟩
           obtain ⟨A7, n7, c7, rfl, hx7⟩ := ho7.shape
           have HE7 := Lib.hid ((HE3.out.below (below_drewN (Below.refl w3.heap.size w3) 1) HE3.out.lt).go hb7)
           have HX7 := Lib.hid hx7
           have HB7 := Lib.hid (Below.then (below_drewN (Below.refl w3.heap.size w3) 1) hb7 (Nat.le_refl _))
           have hn7 : n7 ≤ 12 := by have := hx7.len; have := HS.out; omega
           clear ho7 hb7 hx7)
        | (go_at_call 21
           refine (insert_any A7 n7 c7 _ fo fl w7 HX7.out (by omega) (by omega) (by omega) (by omega) (by omega)).mono ?_
           rintro e w8 ⟨v8, rfl, ho8, hb8⟩
           have HE8 := Lib.hid (HE7.out.go hb8)
           have HO8 := Lib.hid ho8
           have HB8 := Lib.hid (Below.then HB7.out hb8 (Nat.le_refl _))
           clear ho8 hb8))
    obtain ⟨PA, Pn, Pc, rfl, hx8⟩ := HO8.out.shape
    rename_i hHeld
    clear hHeld
    have HP0 := Lib.hid hx8
    clear hx8 HO8 HE7 HX7 k0 k1 HS3
    have HX1 := Lib.hid (HX1.out.go HB8.out); have HX2 := Lib.hid (HX2.out.go HB8.out); have HR8 := Lib.hid (HR3.out.go HB8.out); have HB8' := Lib.hid (Below.then HB3.out HB8.out (Nat.le_refl _))
    clear HR3 HE3 HB8 HB7
    go_wp2_with fail
    have HS8 := Lib.hid (set_any a2 n2 c2 L w8.drew (HR8.out.go (below_drewN (Below.refl _ _) 1)) HF.out)
    have k0 := HE8.out.cell0
    have k1 := HE8.out.cell1
    go_region_held3 (fun w' => w'.cell? ⟨w2.heap.size, 0, none⟩ = some (.int .i64 fo) ∧ w'.cell? ⟨w2.heap.size, 1, none⟩ = some (.int .i64 fl))
      (first
        | exact ⟨k0, k1⟩
        | exact ⟨HE10.out.cell0, HE10.out.cell1⟩
        | exact ⟨HE9.out.cell0, HE9.out.cell1⟩)
      (first
        | (go_at_call 14
           refine HS8.out.mono ?_
           rintro e w9 ⟨v7, rfl, ho7, hb7⟩
           obtain ⟨A9, n9, c9, rfl, hx7⟩ := ho7.shape
           have HE9 := Lib.hid ((HE8.out.below (below_drewN (Below.refl w8.heap.size w8) 1) HE8.out.lt).go hb7)
           have HX9 := Lib.hid hx7
           have HB9 := Lib.hid (Below.then (below_drewN (Below.refl w8.heap.size w8) 1) hb7 (Nat.le_refl _))
           have hn9 : n9 ≤ 12 := by have := hx7.len; have := HS.out; omega
           clear ho7 hb7 hx7)
        | (go_at_call 22
           refine (insertR_any A9 n9 c9 _ fo fl w9 HX9.out (by omega) (by omega) (by omega) (by omega) (by omega)).mono ?_
           rintro e w10 ⟨v8, rfl, ho8, hb8⟩
           have HE10 := Lib.hid (HE9.out.go hb8)
           have HO10 := Lib.hid ho8
           have HB10 := Lib.hid (Below.then HB9.out hb8 (Nat.le_refl _))
           clear ho8 hb8))
    obtain ⟨QA, Qn, Qc, rfl, hx8⟩ := HO10.out.shape
    rename_i hHeld
    clear hHeld
    have HQ0 := Lib.hid hx8
    clear hx8 HO10 HE9 HX9 k0 k1 HS8
    have HX1 := Lib.hid (HX1.out.go HB10.out); have HX2 := Lib.hid (HX2.out.go HB10.out); have HP0 := Lib.hid (HP0.out.go HB10.out); have HBA := Lib.hid (Below.then HB8'.out HB10.out (Nat.le_refl _))
    generalize (insR (mkSet L) (fo, fl)).1 = l2 at *
    generalize (insR (mkSet L) (fo, fl)).2 = r2 at *
    clear HR8 HB10 HB9 HB8'
    go_wp2_with fail
    refine (awake_any _).mono ?_
    rintro e w11 ⟨rfl, hb⟩
    have HX1 := Lib.hid (HX1.out.go hb); have HX2 := Lib.hid (HX2.out.go hb); have HP0 := Lib.hid (HP0.out.go hb); have HQ0 := Lib.hid (HQ0.out.go hb); have HBB := Lib.hid (Below.then HBA.out hb (Nat.le_refl _))
    clear hb
    go_wp2_with fail
    refine (same_yes _ _ _ _ _ _ _ _ HX1.out HX2.out).mono ?_
    rintro e w12 ⟨rfl, hb⟩
    have HP0 := Lib.hid (HP0.out.go hb); have HQ0 := Lib.hid (HQ0.out.go hb); have HBC := Lib.hid (Below.then HBB.out hb (Nat.le_refl _))
    clear hb
    go_wp2_with fail
    refine (same_yes _ _ _ _ _ _ _ _ HP0.out HQ0.out).mono ?_
    rintro e w13 ⟨rfl, hb⟩
    have HBD := Lib.hid (Below.then HBC.out hb (Nat.le_refl _))
    clear hb
    go_wp2
    go_ret
    exact ⟨rfl, HBD.out⟩
  · go_enter Try.func4, Try.ntmps4
    go_wp2_with fail
    refine (few_any a0 n0 c0 _).mono ?_
    rintro e w1 ⟨rfl, rfl⟩
    rw [decide_eq_false hn]
    go_wp2_with fail
    refine (awake_any _).mono ?_
    rintro e w2 ⟨rfl, hb⟩
    go_wp2
    go_ret
    exact ⟨rfl, Below.then HB0.out hb (Nat.le_refl _)⟩
end Go.Proofs.Ytolfcoaipcaoaaa
