/-
  The comparison of package layout with the definition, under contracts of the package's functions. Conditions: those contracts; at most forty fields.
-/
import Derived.Test.YthchcgpbmkmfnaaLaD
namespace Go.Proofs.Ythchcgpbmkmfnaa
open Go.ChangeShapes Go.WideShapes Go.RowKit
set_option linter.unusedVariables false
set_option maxHeartbeats 8000000
set_option maxRecDepth 100000

/-- The contracts of package layout. -/
structure Lc : Prop where
  ck : ∀ (n : Int) (A : Option Addr) (m c : Nat) (l : List (Int × Int)) (w : World), Exs w w.heap.size A m c l → m ≤ 40 → Calls Try.prog 20 #[.agg #[.int .i64 n, .slice A m c]] w (Says w (.int .i64 (chk n l)))
  ct : ∀ (n : Int) (A : Option Addr) (m c : Nat) (l : List (Int × Int)) (w : World), Exs w w.heap.size A m c l → m ≤ 40 → Calls Try.prog 15 #[.agg #[.int .i64 n, .slice A m c]] w (Says w (.int .i64 (cnt n l)))
  sz : ∀ (n : Int) (A : Option Addr) (m c : Nat) (l : List (Int × Int)) (w : World), Exs w w.heap.size A m c l → m ≤ 40 → Calls Try.prog 14 #[.agg #[.int .i64 n, .slice A m c]] w (Says w (.tuple #[.int .i64 (szt n l), .int .i64 (chk n l)]))
  pl : ∀ (n i : Int) (A : Option Addr) (m c : Nat) (l : List (Int × Int)) (w : World), Exs w w.heap.size A m c l → m ≤ 40 → Calls Try.prog 16 #[.agg #[.int .i64 n, .slice A m c], .int .i64 i] w (Says w (.tuple #[plv (plV n l i), .int .i64 (plE n l i)]))

theorem same_any (H : Lc) (n i : Int) (A : Option Addr) (m c : Nat) (l : List (Int × Int)) (w : World) (h : Exs w w.heap.size A m c l) (hm : m ≤ 40) :
    Calls Try.prog 11 #[.agg #[.int .i64 n, .slice A m c], .int .i64 i] w (Says w (.bool true)) := by
  have hb0 : Below w.heap.size w (w.alloc (.cells #[.int .i64 n, .slice A m c] 24)) := (Below.refl _ _).alloc (Nat.le_refl _) _
  have HB1 := Lib.hid hb0
  have HT1 := Lib.hid (TyB.new (w := w) (n := n) (A := A) (m := m) (c := c))
  have HX1 := Lib.hid (h.go hb0)
  have K1 := Lib.hid (fun W (hW : Exs W W.heap.size A m c l) => H.sz n A m c l W hW hm)
  have K2 := Lib.hid (fun W (hW : Exs W W.heap.size A m c l) => sizeR_any' n A m c l W hW hm)
  have K3 := Lib.hid (fun W (hW : Exs W W.heap.size A m c l) => H.pl n i A m c l W hW hm)
  have K4 := Lib.hid (fun W (hW : Exs W W.heap.size A m c l) => placeR_any n i A m c l W hW hm)
  have K5 := Lib.hid (fun W (hW : Exs W W.heap.size A m c l) => H.ck n A m c l W hW hm)
  have K6 := Lib.hid (fun W (hW : Exs W W.heap.size A m c l) => checkR_any n A m c l W hW hm)
  have K7 := Lib.hid (fun W (hW : Exs W W.heap.size A m c l) => H.ct n A m c l W hW hm)
  have K8 := Lib.hid (fun W (hW : Exs W W.heap.size A m c l) => countR_any n A m c l W hW hm)
  obtain ⟨px, py, pz⟩ : Int × Int × Int := plV n l i
  generalize chk n l = ck at *
  generalize cnt n l = ct at *
  generalize szt n l = sz at *
  generalize plE n l i = pe at *
  obtain ⟨⟨px, py, pz⟩, hpv⟩ : ∃ p, plV n l i = p := ⟨_, rfl⟩
  rw [hpv] at K3 K4
  unfold plv at K3 K4
  simp only at K3 K4
  clear h hb0 hpv
  go_enter Try.func11, Try.ntmps11
  go_wp2_with fail
  generalize w.alloc (.cells #[.int .i64 n, .slice A m c] 24) = w1 at *
  generalize htb : w.heap.size = tb at *
  have hw1 : tb ≤ w1.heap.size := Nat.le_of_lt HT1.out.lt
  refine (K1.out w1 HX1.out).mono ?_
  rintro e w2 ⟨rfl, hb⟩
  have HX2 := Lib.hid (HX1.out.go hb)
  have HT2 := Lib.hid (HT1.out.go hb)
  have HB2 := Lib.hid (HB1.out.trans (hb.mono hw1))
  have hw2 : tb ≤ w2.heap.size := Nat.le_trans hw1 hb.size
  have c0 := HT2.out.cell0
  have c1 := HT2.out.cell1
  clear hb K1 HX1 HT1 HB1
  go_wp2_with fail
  refine (K2.out w2 HX2.out).mono ?_
  rintro e w3 ⟨rfl, hb⟩
  have HX3 := Lib.hid (HX2.out.go hb)
  have HT3 := Lib.hid (HT2.out.go hb)
  have HB3 := Lib.hid (HB2.out.trans (hb.mono hw2))
  have hw3 : tb ≤ w3.heap.size := Nat.le_trans hw2 hb.size
  clear hb K2 HX2 HT2 HB2 c0 c1
  have c0 := HT3.out.cell0
  have c1 := HT3.out.cell1
  go_wp2_with fail
  refine (K3.out w3 HX3.out).mono ?_
  rintro e w4 ⟨rfl, hb⟩
  have hb5 : Below w3.heap.size w3 (w4.alloc (.cells #[.int .i64 px, .int .i64 py, .int .i64 pz] 44)) := hb.alloc hb.size _
  have HX5 := Lib.hid (HX3.out.go hb5)
  have HT5 := Lib.hid (HT3.out.go hb5)
  have HB5 := Lib.hid (HB3.out.trans (hb5.mono hw3))
  have HP5 := Lib.hid (PlB.new (w := w4) (x := px) (y := py) (z := pz))
  have hw5 : tb ≤ (w4.alloc (.cells #[.int .i64 px, .int .i64 py, .int .i64 pz] 44)).heap.size := Nat.le_trans hw3 hb5.size
  clear hb hb5 K3 HX3 HT3 HB3 c0 c1
  have c0 := HT5.out.cell0
  have c1 := HT5.out.cell1
  go_wp2_with fail
  generalize w4.alloc (.cells #[.int .i64 px, .int .i64 py, .int .i64 pz] 44) = w5 at *
  generalize w4.heap.size = t1 at *
  refine (K4.out w5 HX5.out).mono ?_
  rintro e w6 ⟨rfl, hb⟩
  have hb7 : Below w5.heap.size w5 (w6.alloc (.cells #[.int .i64 px, .int .i64 py, .int .i64 pz] 44)) := hb.alloc hb.size _
  have HX7 := Lib.hid (HX5.out.go hb7)
  have HT7 := Lib.hid (HT5.out.go hb7)
  have HP7 := Lib.hid (HP5.out.go hb7)
  have HB7 := Lib.hid (HB5.out.trans (hb7.mono hw5))
  have HQ7 := Lib.hid (PlB.new (w := w6) (x := px) (y := py) (z := pz))
  clear hb K4 HX5 HT5 HB5 HP5 c0 c1 hw1 hw2 hw3
  have hw7 : tb ≤ (w6.alloc (.cells #[.int .i64 px, .int .i64 py, .int .i64 pz] 44)).heap.size := Nat.le_trans hw5 hb7.size
  clear hb7
  go_wp2_with fail
  generalize w6.alloc (.cells #[.int .i64 px, .int .i64 py, .int .i64 pz] 44) = w7 at *
  generalize w6.heap.size = t2 at *
  have a0 : ∀ q : Later w7, q.val.cell? ⟨tb, 0, none⟩ = some (.int .i64 n) := fun q => later_old q HT7.out.cell0
  have a1 : ∀ q : Later w7, q.val.cell? ⟨tb, 1, none⟩ = some (.slice A m c) := fun q => later_old q HT7.out.cell1
  have p0 : ∀ q : Later w7, q.val.cell? ⟨t1, 0, none⟩ = some (.int .i64 px) := fun q => later_old q HP7.out.cell0
  have p1 : ∀ q : Later w7, q.val.cell? ⟨t1, 1, none⟩ = some (.int .i64 py) := fun q => later_old q HP7.out.cell1
  have p2 : ∀ q : Later w7, q.val.cell? ⟨t1, 2, none⟩ = some (.int .i64 pz) := fun q => later_old q HP7.out.cell2
  have q0 : ∀ q : Later w7, q.val.cell? ⟨t2, 0, none⟩ = some (.int .i64 px) := fun q => later_old q HQ7.out.cell0
  have q1 : ∀ q : Later w7, q.val.cell? ⟨t2, 1, none⟩ = some (.int .i64 py) := fun q => later_old q HQ7.out.cell1
  have q2 : ∀ q : Later w7, q.val.cell? ⟨t2, 2, none⟩ = some (.int .i64 pz) := fun q => later_old q HQ7.out.cell2
  have M5 := Lib.hid (fun q : Later w7 => K5.out q.val (HX7.out.go q.2))
  have M6 := Lib.hid (fun q : Later w7 => K6.out q.val (HX7.out.go q.2))
  have M7 := Lib.hid (fun q : Later w7 => K7.out q.val (HX7.out.go q.2))
  have M8 := Lib.hid (fun q : Later w7 => K8.out q.val (HX7.out.go q.2))
  clear K5 K6 K7 K8
  refine wp_region_later (by kernel_rfl) (by kernel_rfl) ?_
  repeat (go_big_quiet_step (first
    | (go_at_call 20; exact Calls.later (M5.out _))
    | (go_at_call 21; exact Calls.later (M6.out _))
    | (go_at_call 15; exact Calls.later (M7.out _))
    | (go_at_call 22; exact Calls.later (M8.out _))))
  refine wpQuiet_nil ?_
  rintro w8 ⟨⟨_, hq⟩, rfl⟩
  have HB8 := Lib.hid (HB7.out.trans (hq.mono hw7))
  clear hq M5 M6 M7 M8 a0 a1 p0 p1 p2 q0 q1 q2
  go_wp2
  go_ret
  exact ⟨rfl, by rw [htb]; exact HB8.out⟩
end Go.Proofs.Ythchcgpbmkmfnaa
