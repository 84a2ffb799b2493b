/-
  The law AllocatorNew as a walk: it returns true and changes nothing that was there. No conditions.
-/
import Derived.Test.YtbiamhandhbodaaNeLaw
import Derived.Test.YtbiamhandhbodaaOpen
namespace Go.Proofs.Ytbiamhandhbodaa
open Go.ChangeShapes Go.WideShapes Go.ChangeAt Go.RowKit
set_option linter.unusedVariables false
set_option maxHeartbeats 60000000
set_option maxRecDepth 100000

def intV : Value → Nat | .int _ n => (2 - n).toNat | _ => 0
/-- The two allocators without bytes that the law tries, and the row that holds them. -/
theorem two_zero (w3 : World) : Zc ((w3.alloc (.cells #[.slice none 0 0, .slice none 0 0] 41)).alloc (.cells #[.pointer none, .pointer (some ⟨w3.heap.size, 0, none⟩)] 24)) (.pointer (some ⟨w3.heap.size, 0, none⟩)) := by
  have h : Alc (w3.alloc (.cells #[.slice none 0 0, .slice none 0 0] 41)) (fun _ => 1) 1 w3.heap.size [] [] :=
    ⟨_, _, heap_alloc_new w3 _, OwnE.nil _ _ _, OwnE.nil _ _ _, rfl, fun g hg => by simp [Value.ownBlock] at hg, fun g hg => by simp [Value.ownBlock] at hg⟩
  exact zc_zero (h.go ((Below.refl _ _).alloc (Nat.le_refl _) _))
/-- What a round of the law needs of the one that it tries. -/
structure Rd (w5 : World) (v : Value) (n r : Int) : Prop where
  al : ∀ W, Below w5.heap.size w5 W → Calls Try.prog 13 #[v, .int .i64 n] W (ChE W ((0, 0), r))
  fi : ∀ W, Below w5.heap.size w5 W → Calls Try.prog 15 #[v, .int .i64 n] W fun e w' => e = .returned (.int .i64 r) ∧ Below W.heap.size W w'
  mf : ∀ c q W, Mdl W c 2 q 0 [] → Calls Try.prog 14 #[.pointer (some ⟨q, 0, none⟩), .int .i64 n] W fun e w' => e = .returned (.int .i64 r) ∧ Below W.heap.size W w'
theorem rd_of {w : World} {v : Value} (h : Zc w v) (n : Int) : Rd w v n (chR [] n).2 :=
  ⟨fun W hW => h.al W hW n, fun W hW => h.fi W hW n, fun c q W hm => fitsR_any c 2 q 0 n [] [] [] W hm gd_zero (List.Perm.refl _) (by simp)⟩
theorem mdl_zero (w : World) : Mdl (w.alloc (.cells #[.int .i64 0, .slice none 0 0] 31)) (fun _ => 2) 2 w.heap.size 0 [] :=
  ⟨_, heap_alloc_new w _, OwnE.nil _ _ _, rfl, fun g hg => by simp [Value.ownBlock] at hg⟩

theorem allocatorNew_walk (s near n x y : Int) (w : World) (h0 : (Lit.int .i64 s).wf = true) (h1 : (Lit.int .u8 near).wf = true) (h2 : (Lit.int .i64 n).wf = true) (h3 : (Lit.int .i64 x).wf = true) (h4 : (Lit.int .i64 y).wf = true) :
    Calls Try.prog 4 #[.int .i64 s, .int .u8 near, .int .i64 n, .agg #[.int .i64 x, .int .i64 y]] w fun e w' => e = .returned (.bool true) ∧ Below w.heap.size w w' := by
  have hn1 := Go.bounds_u8 h1
  have hb0 : Below w.heap.size w (w.alloc (.cells #[.int .i64 x, .int .i64 y] 39)) := (Below.refl _ _).alloc (Nat.le_refl _) _
  have HBX := Lib.hid (Box.new (w := w) (x := x) (y := y))
  have HB0 := Lib.hid hb0
  have hmod : near.tmod 3 = near % 3 := Int.tmod_eq_emod_of_nonneg hn1.1
  have hm0 : 0 ≤ near % 3 := by omega
  have hm1 : near % 3 ≤ 2 := by omega
  have hwr : IntKind.u8.wrap (near % 3) = near % 3 := by rw [IntKind.wrap_u8]; omega
  have hwa : IntKind.i64.wrap (near % 3) = near % 3 := by rw [IntKind.wrap_i64]; omega
  have hwb : IntKind.i64.wrap (1048575 + near % 3) = 1048575 + near % 3 := by rw [IntKind.wrap_i64]; omega
  clear hb0 h0 h1 h2 h3 h4
  go_enter Try.func4, Try.ntmps4
  go_wp2_with fail
  generalize w.alloc (.cells #[.int .i64 x, .int .i64 y] 39) = w1 at *
  generalize hb : near % 3 = b at *
  have hsp : (0 ≤ s ∧ s ≤ 1048576) ∨ (0 ≤ s ∧ ¬ s ≤ 1048576) ∨ ¬ 0 ≤ s := by omega
  rcases hsp with hok | hok | hok
  · refine (new_ok s w1 hok.1 hok.2).mono ?_
    rintro e w2 ⟨p, rfl, _, hb2, _⟩
    have HBX2 := Lib.hid (HBX.out.go hb2)
    have HB2 := Lib.hid (Below.then HB0.out hb2 (by have := HB0.out.size; omega))
    clear hb2 HBX HB0
    by_cases hnear : b < 2
    · go_wp2_with fail
      refine (new_ok (1048575 + b) w2 (by omega) (by omega)).mono ?_
      rintro e w3 ⟨p', rfl, _, hb3, _⟩
      have HBX3 := Lib.hid (HBX2.out.go hb3)
      have HB3 := Lib.hid (Below.then HB2.out hb3 (by have := HB2.out.size; omega))
      clear hb3 HBX2 HB2
      have hbz : (b == 2) = false := by simp; omega
      have hs0 := hok.1
      have hs1 := hok.2
      go_wp2_with fail
      have HB5 : Hid (Below w.heap.size w ((w3.alloc (.cells #[.slice none 0 0, .slice none 0 0] 41)).alloc (.cells #[.pointer none, .pointer (some ⟨w3.heap.size, 0, none⟩)] 24))) := Lib.hid ((HB3.out.alloc HB3.out.size _).alloc (Nat.le_trans HB3.out.size (by simp)) _)
      have HX5 := Lib.hid ((HBX3.out.go ((Below.refl _ _).alloc (Nat.le_refl _) _)).go (((Below.refl _ _).alloc (Nat.le_refl _) (.cells #[.pointer none, .pointer (some ⟨w3.heap.size, 0, none⟩)] 24)) : Below _ (w3.alloc (.cells #[.slice none 0 0, .slice none 0 0] 41)) _))
      have HZ2 := Lib.hid (two_zero w3)
      have hrow := heap_alloc_new (w3.alloc (.cells #[.slice none 0 0, .slice none 0 0] 41)) (.cells #[.pointer none, .pointer (some ⟨w3.heap.size, 0, none⟩)] 24)
      rw [show (w3.alloc (.cells #[.slice none 0 0, .slice none 0 0] 41)).heap.size = w3.heap.size + 1 by simp] at hrow
      have HR := Lib.hid hrow
      clear hrow HB3 HBX3
      generalize ((w3.alloc (.cells #[.slice none 0 0, .slice none 0 0] 41)).alloc (.cells #[.pointer none, .pointer (some ⟨w3.heap.size, 0, none⟩)] 24)) = w5 at *
      have HZ1 := Lib.hid (zc_nil w5)
      go_loopw [78] (fun iv wr => ∃ i : Int, iv = .int .i64 i ∧ (i = 0 ∨ i = 1 ∨ i = 2) ∧ Hid (Below w5.heap.size w5 wr)) (fun iv _ => intV iv)
      case atStart => exact ⟨0, rfl, .inl rfl, Lib.hid (Below.refl _ _)⟩
      case round =>
        obtain ⟨i, rfl, hi, hh⟩ := hrel
        have hsz := hh.out.size
        have hlt5 : w3.heap.size + 1 < w5.heap.size := (Array.getElem?_eq_some_iff.1 HR.out).1
        have hbx5 := HX5.out.lt
        have HRr : Hid (wr.heap[w3.heap.size + 1]? = some (.cells #[.pointer none, .pointer (some ⟨w3.heap.size, 0, none⟩)] 24 (0, 0))) := Lib.hid ((hh.out.block _ hlt5).trans HR.out)
        have c0 := cell_of_row wr (w3.heap.size + 1) 0 _ _ _ HRr.out
        have c1 := cell_of_row wr (w3.heap.size + 1) 1 _ _ _ HRr.out
        rcases hi with rfl | rfl | rfl
        · have HZ := HZ1
          have HRd := Lib.hid (rd_of HZ.out n)
          generalize (chR [] n).2 = r at *
          have HM := Lib.hid (mdl_zero wr)
          have hb6 : Below w5.heap.size w5 (wr.alloc (.cells #[.int .i64 0, .slice none 0 0] 31)) := hh.out.alloc hsz _
          have HB6 := Lib.hid hb6
          clear HRr hb6
          go_wp2_with fail
          generalize wr.alloc (.cells #[.int .i64 0, .slice none 0 0] 31) = w6 at *
          refine (HRd.out.al w6 HB6.out).mono ?_
          rintro e w7 ⟨rfl, hb7⟩
          have hb8 : Below w6.heap.size w6 (w7.alloc (.cells #[.int .i64 0, .int .i64 0] 39)) := hb7.alloc hb7.size _
          have HM8 := Lib.hid (HM.out.go hb8)
          have HB8 := Lib.hid (Below.then HB6.out hb8 (Nat.le_refl _))
          have HU8 := Lib.hid (Box.new (w := w7) (x := 0) (y := 0))
          clear hb7 hb8 HM HB6 c0 c1
          go_wp2_with fail
          generalize w7.alloc (.cells #[.int .i64 0, .int .i64 0] 39) = w8 at *
          refine (HRd.out.mf _ _ w8 HM8.out).mono ?_
          rintro e w9 ⟨rfl, hb9⟩
          have HB9 := Lib.hid (Below.then HB8.out hb9 (Nat.le_refl _))
          have HU9 := Lib.hid (HU8.out.go hb9)
          have u0 := HU9.out.cell0
          have u1 := HU9.out.cell1
          clear hb9 HM8 HB8 HU8
          go_wp2_with fail
          refine (HRd.out.fi w9 HB9.out).mono ?_
          rintro e w10 ⟨rfl, hb10⟩
          have HB10 := Lib.hid (Below.then HB9.out hb10 (Nat.le_refl _))
          have HX10 := Lib.hid (HX5.out.go HB10.out)
          have v0 := HX10.out.cell0
          have v1 := HX10.out.cell1
          clear hb10 HB9 u0 u1 HU9
          go_wp2_with fail
          refine (HZ.out.fr w10 HB10.out x y).mono ?_
          rintro e w11 ⟨rfl, hb11⟩
          have HB11 := Lib.hid (Below.then HB10.out hb11 (Nat.le_refl _))
          have HX11 := Lib.hid (HX5.out.go HB11.out)
          have v0 := HX11.out.cell0
          have v1 := HX11.out.cell1
          clear hb11 HB10 HX10
          go_wp2_with fail
          refine (HZ.out.ha w11 HB11.out x y).mono ?_
          rintro e w12 ⟨rfl, hb12⟩
          have HB12 := Lib.hid (Below.then HB11.out hb12 (Nat.le_refl _))
          clear hb12 HB11 HX11 v0 v1
          go_wp2_with fail
          refine (HZ.out.fl w12 HB12.out).mono ?_
          rintro e w13 ⟨v, rfl, ho, hb13⟩
          obtain ⟨Av, nv, cv, rfl, hxv⟩ := ho.shape
          obtain rfl : nv = 0 := hxv.len.symm
          have HB13 := Lib.hid (Below.then HB12.out hb13 (Nat.le_refl _))
          clear ho hb13 hxv HB12
          go_wp2_with fail
          refine (HZ.out.li w13 HB13.out).mono ?_
          rintro e w14 ⟨v, rfl, ho, hb14⟩
          obtain ⟨Aw, nw, cw, rfl, hxw⟩ := ho.shape
          obtain rfl : nw = 0 := hxw.len.symm
          have HB14 := Lib.hid (Below.then HB13.out hb14 (Nat.le_refl _))
          clear ho hb14 hxw HB13
          go_wp2
          go_roundw
          case rel =>
            exact ⟨_, rfl, .inr (.inl rfl), HB14⟩
          case measure => simp [intV]

        · have HZ := HZ2
          have HRd := Lib.hid (rd_of HZ.out n)
          generalize (chR [] n).2 = r at *
          have HM := Lib.hid (mdl_zero wr)
          have hb6 : Below w5.heap.size w5 (wr.alloc (.cells #[.int .i64 0, .slice none 0 0] 31)) := hh.out.alloc hsz _
          have HB6 := Lib.hid hb6
          clear HRr hb6
          go_wp2_with fail
          generalize wr.alloc (.cells #[.int .i64 0, .slice none 0 0] 31) = w6 at *
          refine (HRd.out.al w6 HB6.out).mono ?_
          rintro e w7 ⟨rfl, hb7⟩
          have hb8 : Below w6.heap.size w6 (w7.alloc (.cells #[.int .i64 0, .int .i64 0] 39)) := hb7.alloc hb7.size _
          have HM8 := Lib.hid (HM.out.go hb8)
          have HB8 := Lib.hid (Below.then HB6.out hb8 (Nat.le_refl _))
          have HU8 := Lib.hid (Box.new (w := w7) (x := 0) (y := 0))
          clear hb7 hb8 HM HB6 c0 c1
          go_wp2_with fail
          generalize w7.alloc (.cells #[.int .i64 0, .int .i64 0] 39) = w8 at *
          refine (HRd.out.mf _ _ w8 HM8.out).mono ?_
          rintro e w9 ⟨rfl, hb9⟩
          have HB9 := Lib.hid (Below.then HB8.out hb9 (Nat.le_refl _))
          have HU9 := Lib.hid (HU8.out.go hb9)
          have u0 := HU9.out.cell0
          have u1 := HU9.out.cell1
          clear hb9 HM8 HB8 HU8
          go_wp2_with fail
          refine (HRd.out.fi w9 HB9.out).mono ?_
          rintro e w10 ⟨rfl, hb10⟩
          have HB10 := Lib.hid (Below.then HB9.out hb10 (Nat.le_refl _))
          have HX10 := Lib.hid (HX5.out.go HB10.out)
          have v0 := HX10.out.cell0
          have v1 := HX10.out.cell1
          clear hb10 HB9 u0 u1 HU9
          go_wp2_with fail
          refine (HZ.out.fr w10 HB10.out x y).mono ?_
          rintro e w11 ⟨rfl, hb11⟩
          have HB11 := Lib.hid (Below.then HB10.out hb11 (Nat.le_refl _))
          have HX11 := Lib.hid (HX5.out.go HB11.out)
          have v0 := HX11.out.cell0
          have v1 := HX11.out.cell1
          clear hb11 HB10 HX10
          go_wp2_with fail
          refine (HZ.out.ha w11 HB11.out x y).mono ?_
          rintro e w12 ⟨rfl, hb12⟩
          have HB12 := Lib.hid (Below.then HB11.out hb12 (Nat.le_refl _))
          clear hb12 HB11 HX11 v0 v1
          go_wp2_with fail
          refine (HZ.out.fl w12 HB12.out).mono ?_
          rintro e w13 ⟨v, rfl, ho, hb13⟩
          obtain ⟨Av, nv, cv, rfl, hxv⟩ := ho.shape
          obtain rfl : nv = 0 := hxv.len.symm
          have HB13 := Lib.hid (Below.then HB12.out hb13 (Nat.le_refl _))
          clear ho hb13 hxv HB12
          go_wp2_with fail
          refine (HZ.out.li w13 HB13.out).mono ?_
          rintro e w14 ⟨v, rfl, ho, hb14⟩
          obtain ⟨Aw, nw, cw, rfl, hxw⟩ := ho.shape
          obtain rfl : nw = 0 := hxw.len.symm
          have HB14 := Lib.hid (Below.then HB13.out hb14 (Nat.le_refl _))
          clear ho hb14 hxw HB13
          go_wp2
          go_roundw
          case rel =>
            exact ⟨_, rfl, .inr (.inr rfl), HB14⟩
          case measure => simp [intV]

        · go_wp2_with fail
          refine (awake6_any wr).mono ?_
          rintro e w6 ⟨rfl, hb⟩
          have HB6 := Lib.hid (Below.trans HB5.out ((hh.out.trans (hb.mono hsz)).mono HB5.out.size))
          clear hb
          go_wp2
          go_ret
          exact ⟨rfl, HB6.out⟩
    · obtain rfl : b = 2 := by omega
      go_wp2_with fail
      refine (new_bad 1048577 w2 (by omega)).mono ?_
      rintro e w3 ⟨rfl, hb3⟩
      have HBX3 := Lib.hid (HBX2.out.go hb3)
      have HB3 := Lib.hid (Below.then HB2.out hb3 (by have := HB2.out.size; omega))
      clear hb3 HBX2 HB2
      have hs0 := hok.1
      have hs1 := hok.2
      go_wp2_with fail
      have HB5 : Hid (Below w.heap.size w ((w3.alloc (.cells #[.slice none 0 0, .slice none 0 0] 41)).alloc (.cells #[.pointer none, .pointer (some ⟨w3.heap.size, 0, none⟩)] 24))) := Lib.hid ((HB3.out.alloc HB3.out.size _).alloc (Nat.le_trans HB3.out.size (by simp)) _)
      have HX5 := Lib.hid ((HBX3.out.go ((Below.refl _ _).alloc (Nat.le_refl _) _)).go (((Below.refl _ _).alloc (Nat.le_refl _) (.cells #[.pointer none, .pointer (some ⟨w3.heap.size, 0, none⟩)] 24)) : Below _ (w3.alloc (.cells #[.slice none 0 0, .slice none 0 0] 41)) _))
      have HZ2 := Lib.hid (two_zero w3)
      have hrow := heap_alloc_new (w3.alloc (.cells #[.slice none 0 0, .slice none 0 0] 41)) (.cells #[.pointer none, .pointer (some ⟨w3.heap.size, 0, none⟩)] 24)
      rw [show (w3.alloc (.cells #[.slice none 0 0, .slice none 0 0] 41)).heap.size = w3.heap.size + 1 by simp] at hrow
      have HR := Lib.hid hrow
      clear hrow HB3 HBX3
      generalize ((w3.alloc (.cells #[.slice none 0 0, .slice none 0 0] 41)).alloc (.cells #[.pointer none, .pointer (some ⟨w3.heap.size, 0, none⟩)] 24)) = w5 at *
      have HZ1 := Lib.hid (zc_nil w5)
      go_loopw [78] (fun iv wr => ∃ i : Int, iv = .int .i64 i ∧ (i = 0 ∨ i = 1 ∨ i = 2) ∧ Hid (Below w5.heap.size w5 wr)) (fun iv _ => intV iv)
      case atStart => exact ⟨0, rfl, .inl rfl, Lib.hid (Below.refl _ _)⟩
      case round =>
        obtain ⟨i, rfl, hi, hh⟩ := hrel
        have hsz := hh.out.size
        have hlt5 : w3.heap.size + 1 < w5.heap.size := (Array.getElem?_eq_some_iff.1 HR.out).1
        have hbx5 := HX5.out.lt
        have HRr : Hid (wr.heap[w3.heap.size + 1]? = some (.cells #[.pointer none, .pointer (some ⟨w3.heap.size, 0, none⟩)] 24 (0, 0))) := Lib.hid ((hh.out.block _ hlt5).trans HR.out)
        have c0 := cell_of_row wr (w3.heap.size + 1) 0 _ _ _ HRr.out
        have c1 := cell_of_row wr (w3.heap.size + 1) 1 _ _ _ HRr.out
        rcases hi with rfl | rfl | rfl
        · have HZ := HZ1
          have HRd := Lib.hid (rd_of HZ.out n)
          generalize (chR [] n).2 = r at *
          have HM := Lib.hid (mdl_zero wr)
          have hb6 : Below w5.heap.size w5 (wr.alloc (.cells #[.int .i64 0, .slice none 0 0] 31)) := hh.out.alloc hsz _
          have HB6 := Lib.hid hb6
          clear HRr hb6
          go_wp2_with fail
          generalize wr.alloc (.cells #[.int .i64 0, .slice none 0 0] 31) = w6 at *
          refine (HRd.out.al w6 HB6.out).mono ?_
          rintro e w7 ⟨rfl, hb7⟩
          have hb8 : Below w6.heap.size w6 (w7.alloc (.cells #[.int .i64 0, .int .i64 0] 39)) := hb7.alloc hb7.size _
          have HM8 := Lib.hid (HM.out.go hb8)
          have HB8 := Lib.hid (Below.then HB6.out hb8 (Nat.le_refl _))
          have HU8 := Lib.hid (Box.new (w := w7) (x := 0) (y := 0))
          clear hb7 hb8 HM HB6 c0 c1
          go_wp2_with fail
          generalize w7.alloc (.cells #[.int .i64 0, .int .i64 0] 39) = w8 at *
          refine (HRd.out.mf _ _ w8 HM8.out).mono ?_
          rintro e w9 ⟨rfl, hb9⟩
          have HB9 := Lib.hid (Below.then HB8.out hb9 (Nat.le_refl _))
          have HU9 := Lib.hid (HU8.out.go hb9)
          have u0 := HU9.out.cell0
          have u1 := HU9.out.cell1
          clear hb9 HM8 HB8 HU8
          go_wp2_with fail
          refine (HRd.out.fi w9 HB9.out).mono ?_
          rintro e w10 ⟨rfl, hb10⟩
          have HB10 := Lib.hid (Below.then HB9.out hb10 (Nat.le_refl _))
          have HX10 := Lib.hid (HX5.out.go HB10.out)
          have v0 := HX10.out.cell0
          have v1 := HX10.out.cell1
          clear hb10 HB9 u0 u1 HU9
          go_wp2_with fail
          refine (HZ.out.fr w10 HB10.out x y).mono ?_
          rintro e w11 ⟨rfl, hb11⟩
          have HB11 := Lib.hid (Below.then HB10.out hb11 (Nat.le_refl _))
          have HX11 := Lib.hid (HX5.out.go HB11.out)
          have v0 := HX11.out.cell0
          have v1 := HX11.out.cell1
          clear hb11 HB10 HX10
          go_wp2_with fail
          refine (HZ.out.ha w11 HB11.out x y).mono ?_
          rintro e w12 ⟨rfl, hb12⟩
          have HB12 := Lib.hid (Below.then HB11.out hb12 (Nat.le_refl _))
          clear hb12 HB11 HX11 v0 v1
          go_wp2_with fail
          refine (HZ.out.fl w12 HB12.out).mono ?_
          rintro e w13 ⟨v, rfl, ho, hb13⟩
          obtain ⟨Av, nv, cv, rfl, hxv⟩ := ho.shape
          obtain rfl : nv = 0 := hxv.len.symm
          have HB13 := Lib.hid (Below.then HB12.out hb13 (Nat.le_refl _))
          clear ho hb13 hxv HB12
          go_wp2_with fail
          refine (HZ.out.li w13 HB13.out).mono ?_
          rintro e w14 ⟨v, rfl, ho, hb14⟩
          obtain ⟨Aw, nw, cw, rfl, hxw⟩ := ho.shape
          obtain rfl : nw = 0 := hxw.len.symm
          have HB14 := Lib.hid (Below.then HB13.out hb14 (Nat.le_refl _))
          clear ho hb14 hxw HB13
          go_wp2
          go_roundw
          case rel =>
            exact ⟨_, rfl, .inr (.inl rfl), HB14⟩
          case measure => simp [intV]

        · have HZ := HZ2
          have HRd := Lib.hid (rd_of HZ.out n)
          generalize (chR [] n).2 = r at *
          have HM := Lib.hid (mdl_zero wr)
          have hb6 : Below w5.heap.size w5 (wr.alloc (.cells #[.int .i64 0, .slice none 0 0] 31)) := hh.out.alloc hsz _
          have HB6 := Lib.hid hb6
          clear HRr hb6
          go_wp2_with fail
          generalize wr.alloc (.cells #[.int .i64 0, .slice none 0 0] 31) = w6 at *
          refine (HRd.out.al w6 HB6.out).mono ?_
          rintro e w7 ⟨rfl, hb7⟩
          have hb8 : Below w6.heap.size w6 (w7.alloc (.cells #[.int .i64 0, .int .i64 0] 39)) := hb7.alloc hb7.size _
          have HM8 := Lib.hid (HM.out.go hb8)
          have HB8 := Lib.hid (Below.then HB6.out hb8 (Nat.le_refl _))
          have HU8 := Lib.hid (Box.new (w := w7) (x := 0) (y := 0))
          clear hb7 hb8 HM HB6 c0 c1
          go_wp2_with fail
          generalize w7.alloc (.cells #[.int .i64 0, .int .i64 0] 39) = w8 at *
          refine (HRd.out.mf _ _ w8 HM8.out).mono ?_
          rintro e w9 ⟨rfl, hb9⟩
          have HB9 := Lib.hid (Below.then HB8.out hb9 (Nat.le_refl _))
          have HU9 := Lib.hid (HU8.out.go hb9)
          have u0 := HU9.out.cell0
          have u1 := HU9.out.cell1
          clear hb9 HM8 HB8 HU8
          go_wp2_with fail
          refine (HRd.out.fi w9 HB9.out).mono ?_
          rintro e w10 ⟨rfl, hb10⟩
          have HB10 := Lib.hid (Below.then HB9.out hb10 (Nat.le_refl _))
          have HX10 := Lib.hid (HX5.out.go HB10.out)
          have v0 := HX10.out.cell0
          have v1 := HX10.out.cell1
          clear hb10 HB9 u0 u1 HU9
          go_wp2_with fail
          refine (HZ.out.fr w10 HB10.out x y).mono ?_
          rintro e w11 ⟨rfl, hb11⟩
          have HB11 := Lib.hid (Below.then HB10.out hb11 (Nat.le_refl _))
          have HX11 := Lib.hid (HX5.out.go HB11.out)
          have v0 := HX11.out.cell0
          have v1 := HX11.out.cell1
          clear hb11 HB10 HX10
          go_wp2_with fail
          refine (HZ.out.ha w11 HB11.out x y).mono ?_
          rintro e w12 ⟨rfl, hb12⟩
          have HB12 := Lib.hid (Below.then HB11.out hb12 (Nat.le_refl _))
          clear hb12 HB11 HX11 v0 v1
          go_wp2_with fail
          refine (HZ.out.fl w12 HB12.out).mono ?_
          rintro e w13 ⟨v, rfl, ho, hb13⟩
          obtain ⟨Av, nv, cv, rfl, hxv⟩ := ho.shape
          obtain rfl : nv = 0 := hxv.len.symm
          have HB13 := Lib.hid (Below.then HB12.out hb13 (Nat.le_refl _))
          clear ho hb13 hxv HB12
          go_wp2_with fail
          refine (HZ.out.li w13 HB13.out).mono ?_
          rintro e w14 ⟨v, rfl, ho, hb14⟩
          obtain ⟨Aw, nw, cw, rfl, hxw⟩ := ho.shape
          obtain rfl : nw = 0 := hxw.len.symm
          have HB14 := Lib.hid (Below.then HB13.out hb14 (Nat.le_refl _))
          clear ho hb14 hxw HB13
          go_wp2
          go_roundw
          case rel =>
            exact ⟨_, rfl, .inr (.inr rfl), HB14⟩
          case measure => simp [intV]

        · go_wp2_with fail
          refine (awake6_any wr).mono ?_
          rintro e w6 ⟨rfl, hb⟩
          have HB6 := Lib.hid (Below.trans HB5.out ((hh.out.trans (hb.mono hsz)).mono HB5.out.size))
          clear hb
          go_wp2
          go_ret
          exact ⟨rfl, HB6.out⟩
  · refine (new_bad s w1 (by omega)).mono ?_
    rintro e w2 ⟨rfl, hb2⟩
    have HBX2 := Lib.hid (HBX.out.go hb2)
    have HB2 := Lib.hid (Below.then HB0.out hb2 (by have := HB0.out.size; omega))
    clear hb2 HBX HB0
    by_cases hnear : b < 2
    · go_wp2_with fail
      refine (new_ok (1048575 + b) w2 (by omega) (by omega)).mono ?_
      rintro e w3 ⟨p', rfl, _, hb3, _⟩
      have HBX3 := Lib.hid (HBX2.out.go hb3)
      have HB3 := Lib.hid (Below.then HB2.out hb3 (by have := HB2.out.size; omega))
      clear hb3 HBX2 HB2
      have hbz : (b == 2) = false := by simp; omega
      have hs0 := hok.1
      have hs1 := hok.2
      go_wp2_with fail
      have HB5 : Hid (Below w.heap.size w ((w3.alloc (.cells #[.slice none 0 0, .slice none 0 0] 41)).alloc (.cells #[.pointer none, .pointer (some ⟨w3.heap.size, 0, none⟩)] 24))) := Lib.hid ((HB3.out.alloc HB3.out.size _).alloc (Nat.le_trans HB3.out.size (by simp)) _)
      have HX5 := Lib.hid ((HBX3.out.go ((Below.refl _ _).alloc (Nat.le_refl _) _)).go (((Below.refl _ _).alloc (Nat.le_refl _) (.cells #[.pointer none, .pointer (some ⟨w3.heap.size, 0, none⟩)] 24)) : Below _ (w3.alloc (.cells #[.slice none 0 0, .slice none 0 0] 41)) _))
      have HZ2 := Lib.hid (two_zero w3)
      have hrow := heap_alloc_new (w3.alloc (.cells #[.slice none 0 0, .slice none 0 0] 41)) (.cells #[.pointer none, .pointer (some ⟨w3.heap.size, 0, none⟩)] 24)
      rw [show (w3.alloc (.cells #[.slice none 0 0, .slice none 0 0] 41)).heap.size = w3.heap.size + 1 by simp] at hrow
      have HR := Lib.hid hrow
      clear hrow HB3 HBX3
      generalize ((w3.alloc (.cells #[.slice none 0 0, .slice none 0 0] 41)).alloc (.cells #[.pointer none, .pointer (some ⟨w3.heap.size, 0, none⟩)] 24)) = w5 at *
      have HZ1 := Lib.hid (zc_nil w5)
      go_loopw [78] (fun iv wr => ∃ i : Int, iv = .int .i64 i ∧ (i = 0 ∨ i = 1 ∨ i = 2) ∧ Hid (Below w5.heap.size w5 wr)) (fun iv _ => intV iv)
      case atStart => exact ⟨0, rfl, .inl rfl, Lib.hid (Below.refl _ _)⟩
      case round =>
        obtain ⟨i, rfl, hi, hh⟩ := hrel
        have hsz := hh.out.size
        have hlt5 : w3.heap.size + 1 < w5.heap.size := (Array.getElem?_eq_some_iff.1 HR.out).1
        have hbx5 := HX5.out.lt
        have HRr : Hid (wr.heap[w3.heap.size + 1]? = some (.cells #[.pointer none, .pointer (some ⟨w3.heap.size, 0, none⟩)] 24 (0, 0))) := Lib.hid ((hh.out.block _ hlt5).trans HR.out)
        have c0 := cell_of_row wr (w3.heap.size + 1) 0 _ _ _ HRr.out
        have c1 := cell_of_row wr (w3.heap.size + 1) 1 _ _ _ HRr.out
        rcases hi with rfl | rfl | rfl
        · have HZ := HZ1
          have HRd := Lib.hid (rd_of HZ.out n)
          generalize (chR [] n).2 = r at *
          have HM := Lib.hid (mdl_zero wr)
          have hb6 : Below w5.heap.size w5 (wr.alloc (.cells #[.int .i64 0, .slice none 0 0] 31)) := hh.out.alloc hsz _
          have HB6 := Lib.hid hb6
          clear HRr hb6
          go_wp2_with fail
          generalize wr.alloc (.cells #[.int .i64 0, .slice none 0 0] 31) = w6 at *
          refine (HRd.out.al w6 HB6.out).mono ?_
          rintro e w7 ⟨rfl, hb7⟩
          have hb8 : Below w6.heap.size w6 (w7.alloc (.cells #[.int .i64 0, .int .i64 0] 39)) := hb7.alloc hb7.size _
          have HM8 := Lib.hid (HM.out.go hb8)
          have HB8 := Lib.hid (Below.then HB6.out hb8 (Nat.le_refl _))
          have HU8 := Lib.hid (Box.new (w := w7) (x := 0) (y := 0))
          clear hb7 hb8 HM HB6 c0 c1
          go_wp2_with fail
          generalize w7.alloc (.cells #[.int .i64 0, .int .i64 0] 39) = w8 at *
          refine (HRd.out.mf _ _ w8 HM8.out).mono ?_
          rintro e w9 ⟨rfl, hb9⟩
          have HB9 := Lib.hid (Below.then HB8.out hb9 (Nat.le_refl _))
          have HU9 := Lib.hid (HU8.out.go hb9)
          have u0 := HU9.out.cell0
          have u1 := HU9.out.cell1
          clear hb9 HM8 HB8 HU8
          go_wp2_with fail
          refine (HRd.out.fi w9 HB9.out).mono ?_
          rintro e w10 ⟨rfl, hb10⟩
          have HB10 := Lib.hid (Below.then HB9.out hb10 (Nat.le_refl _))
          have HX10 := Lib.hid (HX5.out.go HB10.out)
          have v0 := HX10.out.cell0
          have v1 := HX10.out.cell1
          clear hb10 HB9 u0 u1 HU9
          go_wp2_with fail
          refine (HZ.out.fr w10 HB10.out x y).mono ?_
          rintro e w11 ⟨rfl, hb11⟩
          have HB11 := Lib.hid (Below.then HB10.out hb11 (Nat.le_refl _))
          have HX11 := Lib.hid (HX5.out.go HB11.out)
          have v0 := HX11.out.cell0
          have v1 := HX11.out.cell1
          clear hb11 HB10 HX10
          go_wp2_with fail
          refine (HZ.out.ha w11 HB11.out x y).mono ?_
          rintro e w12 ⟨rfl, hb12⟩
          have HB12 := Lib.hid (Below.then HB11.out hb12 (Nat.le_refl _))
          clear hb12 HB11 HX11 v0 v1
          go_wp2_with fail
          refine (HZ.out.fl w12 HB12.out).mono ?_
          rintro e w13 ⟨v, rfl, ho, hb13⟩
          obtain ⟨Av, nv, cv, rfl, hxv⟩ := ho.shape
          obtain rfl : nv = 0 := hxv.len.symm
          have HB13 := Lib.hid (Below.then HB12.out hb13 (Nat.le_refl _))
          clear ho hb13 hxv HB12
          go_wp2_with fail
          refine (HZ.out.li w13 HB13.out).mono ?_
          rintro e w14 ⟨v, rfl, ho, hb14⟩
          obtain ⟨Aw, nw, cw, rfl, hxw⟩ := ho.shape
          obtain rfl : nw = 0 := hxw.len.symm
          have HB14 := Lib.hid (Below.then HB13.out hb14 (Nat.le_refl _))
          clear ho hb14 hxw HB13
          go_wp2
          go_roundw
          case rel =>
            exact ⟨_, rfl, .inr (.inl rfl), HB14⟩
          case measure => simp [intV]

        · have HZ := HZ2
          have HRd := Lib.hid (rd_of HZ.out n)
          generalize (chR [] n).2 = r at *
          have HM := Lib.hid (mdl_zero wr)
          have hb6 : Below w5.heap.size w5 (wr.alloc (.cells #[.int .i64 0, .slice none 0 0] 31)) := hh.out.alloc hsz _
          have HB6 := Lib.hid hb6
          clear HRr hb6
          go_wp2_with fail
          generalize wr.alloc (.cells #[.int .i64 0, .slice none 0 0] 31) = w6 at *
          refine (HRd.out.al w6 HB6.out).mono ?_
          rintro e w7 ⟨rfl, hb7⟩
          have hb8 : Below w6.heap.size w6 (w7.alloc (.cells #[.int .i64 0, .int .i64 0] 39)) := hb7.alloc hb7.size _
          have HM8 := Lib.hid (HM.out.go hb8)
          have HB8 := Lib.hid (Below.then HB6.out hb8 (Nat.le_refl _))
          have HU8 := Lib.hid (Box.new (w := w7) (x := 0) (y := 0))
          clear hb7 hb8 HM HB6 c0 c1
          go_wp2_with fail
          generalize w7.alloc (.cells #[.int .i64 0, .int .i64 0] 39) = w8 at *
          refine (HRd.out.mf _ _ w8 HM8.out).mono ?_
          rintro e w9 ⟨rfl, hb9⟩
          have HB9 := Lib.hid (Below.then HB8.out hb9 (Nat.le_refl _))
          have HU9 := Lib.hid (HU8.out.go hb9)
          have u0 := HU9.out.cell0
          have u1 := HU9.out.cell1
          clear hb9 HM8 HB8 HU8
          go_wp2_with fail
          refine (HRd.out.fi w9 HB9.out).mono ?_
          rintro e w10 ⟨rfl, hb10⟩
          have HB10 := Lib.hid (Below.then HB9.out hb10 (Nat.le_refl _))
          have HX10 := Lib.hid (HX5.out.go HB10.out)
          have v0 := HX10.out.cell0
          have v1 := HX10.out.cell1
          clear hb10 HB9 u0 u1 HU9
          go_wp2_with fail
          refine (HZ.out.fr w10 HB10.out x y).mono ?_
          rintro e w11 ⟨rfl, hb11⟩
          have HB11 := Lib.hid (Below.then HB10.out hb11 (Nat.le_refl _))
          have HX11 := Lib.hid (HX5.out.go HB11.out)
          have v0 := HX11.out.cell0
          have v1 := HX11.out.cell1
          clear hb11 HB10 HX10
          go_wp2_with fail
          refine (HZ.out.ha w11 HB11.out x y).mono ?_
          rintro e w12 ⟨rfl, hb12⟩
          have HB12 := Lib.hid (Below.then HB11.out hb12 (Nat.le_refl _))
          clear hb12 HB11 HX11 v0 v1
          go_wp2_with fail
          refine (HZ.out.fl w12 HB12.out).mono ?_
          rintro e w13 ⟨v, rfl, ho, hb13⟩
          obtain ⟨Av, nv, cv, rfl, hxv⟩ := ho.shape
          obtain rfl : nv = 0 := hxv.len.symm
          have HB13 := Lib.hid (Below.then HB12.out hb13 (Nat.le_refl _))
          clear ho hb13 hxv HB12
          go_wp2_with fail
          refine (HZ.out.li w13 HB13.out).mono ?_
          rintro e w14 ⟨v, rfl, ho, hb14⟩
          obtain ⟨Aw, nw, cw, rfl, hxw⟩ := ho.shape
          obtain rfl : nw = 0 := hxw.len.symm
          have HB14 := Lib.hid (Below.then HB13.out hb14 (Nat.le_refl _))
          clear ho hb14 hxw HB13
          go_wp2
          go_roundw
          case rel =>
            exact ⟨_, rfl, .inr (.inr rfl), HB14⟩
          case measure => simp [intV]

        · go_wp2_with fail
          refine (awake6_any wr).mono ?_
          rintro e w6 ⟨rfl, hb⟩
          have HB6 := Lib.hid (Below.trans HB5.out ((hh.out.trans (hb.mono hsz)).mono HB5.out.size))
          clear hb
          go_wp2
          go_ret
          exact ⟨rfl, HB6.out⟩
    · obtain rfl : b = 2 := by omega
      go_wp2_with fail
      refine (new_bad 1048577 w2 (by omega)).mono ?_
      rintro e w3 ⟨rfl, hb3⟩
      have HBX3 := Lib.hid (HBX2.out.go hb3)
      have HB3 := Lib.hid (Below.then HB2.out hb3 (by have := HB2.out.size; omega))
      clear hb3 HBX2 HB2
      have hs0 := hok.1
      have hs1 := hok.2
      go_wp2_with fail
      have HB5 : Hid (Below w.heap.size w ((w3.alloc (.cells #[.slice none 0 0, .slice none 0 0] 41)).alloc (.cells #[.pointer none, .pointer (some ⟨w3.heap.size, 0, none⟩)] 24))) := Lib.hid ((HB3.out.alloc HB3.out.size _).alloc (Nat.le_trans HB3.out.size (by simp)) _)
      have HX5 := Lib.hid ((HBX3.out.go ((Below.refl _ _).alloc (Nat.le_refl _) _)).go (((Below.refl _ _).alloc (Nat.le_refl _) (.cells #[.pointer none, .pointer (some ⟨w3.heap.size, 0, none⟩)] 24)) : Below _ (w3.alloc (.cells #[.slice none 0 0, .slice none 0 0] 41)) _))
      have HZ2 := Lib.hid (two_zero w3)
      have hrow := heap_alloc_new (w3.alloc (.cells #[.slice none 0 0, .slice none 0 0] 41)) (.cells #[.pointer none, .pointer (some ⟨w3.heap.size, 0, none⟩)] 24)
      rw [show (w3.alloc (.cells #[.slice none 0 0, .slice none 0 0] 41)).heap.size = w3.heap.size + 1 by simp] at hrow
      have HR := Lib.hid hrow
      clear hrow HB3 HBX3
      generalize ((w3.alloc (.cells #[.slice none 0 0, .slice none 0 0] 41)).alloc (.cells #[.pointer none, .pointer (some ⟨w3.heap.size, 0, none⟩)] 24)) = w5 at *
      have HZ1 := Lib.hid (zc_nil w5)
      go_loopw [78] (fun iv wr => ∃ i : Int, iv = .int .i64 i ∧ (i = 0 ∨ i = 1 ∨ i = 2) ∧ Hid (Below w5.heap.size w5 wr)) (fun iv _ => intV iv)
      case atStart => exact ⟨0, rfl, .inl rfl, Lib.hid (Below.refl _ _)⟩
      case round =>
        obtain ⟨i, rfl, hi, hh⟩ := hrel
        have hsz := hh.out.size
        have hlt5 : w3.heap.size + 1 < w5.heap.size := (Array.getElem?_eq_some_iff.1 HR.out).1
        have hbx5 := HX5.out.lt
        have HRr : Hid (wr.heap[w3.heap.size + 1]? = some (.cells #[.pointer none, .pointer (some ⟨w3.heap.size, 0, none⟩)] 24 (0, 0))) := Lib.hid ((hh.out.block _ hlt5).trans HR.out)
        have c0 := cell_of_row wr (w3.heap.size + 1) 0 _ _ _ HRr.out
        have c1 := cell_of_row wr (w3.heap.size + 1) 1 _ _ _ HRr.out
        rcases hi with rfl | rfl | rfl
        · have HZ := HZ1
          have HRd := Lib.hid (rd_of HZ.out n)
          generalize (chR [] n).2 = r at *
          have HM := Lib.hid (mdl_zero wr)
          have hb6 : Below w5.heap.size w5 (wr.alloc (.cells #[.int .i64 0, .slice none 0 0] 31)) := hh.out.alloc hsz _
          have HB6 := Lib.hid hb6
          clear HRr hb6
          go_wp2_with fail
          generalize wr.alloc (.cells #[.int .i64 0, .slice none 0 0] 31) = w6 at *
          refine (HRd.out.al w6 HB6.out).mono ?_
          rintro e w7 ⟨rfl, hb7⟩
          have hb8 : Below w6.heap.size w6 (w7.alloc (.cells #[.int .i64 0, .int .i64 0] 39)) := hb7.alloc hb7.size _
          have HM8 := Lib.hid (HM.out.go hb8)
          have HB8 := Lib.hid (Below.then HB6.out hb8 (Nat.le_refl _))
          have HU8 := Lib.hid (Box.new (w := w7) (x := 0) (y := 0))
          clear hb7 hb8 HM HB6 c0 c1
          go_wp2_with fail
          generalize w7.alloc (.cells #[.int .i64 0, .int .i64 0] 39) = w8 at *
          refine (HRd.out.mf _ _ w8 HM8.out).mono ?_
          rintro e w9 ⟨rfl, hb9⟩
          have HB9 := Lib.hid (Below.then HB8.out hb9 (Nat.le_refl _))
          have HU9 := Lib.hid (HU8.out.go hb9)
          have u0 := HU9.out.cell0
          have u1 := HU9.out.cell1
          clear hb9 HM8 HB8 HU8
          go_wp2_with fail
          refine (HRd.out.fi w9 HB9.out).mono ?_
          rintro e w10 ⟨rfl, hb10⟩
          have HB10 := Lib.hid (Below.then HB9.out hb10 (Nat.le_refl _))
          have HX10 := Lib.hid (HX5.out.go HB10.out)
          have v0 := HX10.out.cell0
          have v1 := HX10.out.cell1
          clear hb10 HB9 u0 u1 HU9
          go_wp2_with fail
          refine (HZ.out.fr w10 HB10.out x y).mono ?_
          rintro e w11 ⟨rfl, hb11⟩
          have HB11 := Lib.hid (Below.then HB10.out hb11 (Nat.le_refl _))
          have HX11 := Lib.hid (HX5.out.go HB11.out)
          have v0 := HX11.out.cell0
          have v1 := HX11.out.cell1
          clear hb11 HB10 HX10
          go_wp2_with fail
          refine (HZ.out.ha w11 HB11.out x y).mono ?_
          rintro e w12 ⟨rfl, hb12⟩
          have HB12 := Lib.hid (Below.then HB11.out hb12 (Nat.le_refl _))
          clear hb12 HB11 HX11 v0 v1
          go_wp2_with fail
          refine (HZ.out.fl w12 HB12.out).mono ?_
          rintro e w13 ⟨v, rfl, ho, hb13⟩
          obtain ⟨Av, nv, cv, rfl, hxv⟩ := ho.shape
          obtain rfl : nv = 0 := hxv.len.symm
          have HB13 := Lib.hid (Below.then HB12.out hb13 (Nat.le_refl _))
          clear ho hb13 hxv HB12
          go_wp2_with fail
          refine (HZ.out.li w13 HB13.out).mono ?_
          rintro e w14 ⟨v, rfl, ho, hb14⟩
          obtain ⟨Aw, nw, cw, rfl, hxw⟩ := ho.shape
          obtain rfl : nw = 0 := hxw.len.symm
          have HB14 := Lib.hid (Below.then HB13.out hb14 (Nat.le_refl _))
          clear ho hb14 hxw HB13
          go_wp2
          go_roundw
          case rel =>
            exact ⟨_, rfl, .inr (.inl rfl), HB14⟩
          case measure => simp [intV]

        · have HZ := HZ2
          have HRd := Lib.hid (rd_of HZ.out n)
          generalize (chR [] n).2 = r at *
          have HM := Lib.hid (mdl_zero wr)
          have hb6 : Below w5.heap.size w5 (wr.alloc (.cells #[.int .i64 0, .slice none 0 0] 31)) := hh.out.alloc hsz _
          have HB6 := Lib.hid hb6
          clear HRr hb6
          go_wp2_with fail
          generalize wr.alloc (.cells #[.int .i64 0, .slice none 0 0] 31) = w6 at *
          refine (HRd.out.al w6 HB6.out).mono ?_
          rintro e w7 ⟨rfl, hb7⟩
          have hb8 : Below w6.heap.size w6 (w7.alloc (.cells #[.int .i64 0, .int .i64 0] 39)) := hb7.alloc hb7.size _
          have HM8 := Lib.hid (HM.out.go hb8)
          have HB8 := Lib.hid (Below.then HB6.out hb8 (Nat.le_refl _))
          have HU8 := Lib.hid (Box.new (w := w7) (x := 0) (y := 0))
          clear hb7 hb8 HM HB6 c0 c1
          go_wp2_with fail
          generalize w7.alloc (.cells #[.int .i64 0, .int .i64 0] 39) = w8 at *
          refine (HRd.out.mf _ _ w8 HM8.out).mono ?_
          rintro e w9 ⟨rfl, hb9⟩
          have HB9 := Lib.hid (Below.then HB8.out hb9 (Nat.le_refl _))
          have HU9 := Lib.hid (HU8.out.go hb9)
          have u0 := HU9.out.cell0
          have u1 := HU9.out.cell1
          clear hb9 HM8 HB8 HU8
          go_wp2_with fail
          refine (HRd.out.fi w9 HB9.out).mono ?_
          rintro e w10 ⟨rfl, hb10⟩
          have HB10 := Lib.hid (Below.then HB9.out hb10 (Nat.le_refl _))
          have HX10 := Lib.hid (HX5.out.go HB10.out)
          have v0 := HX10.out.cell0
          have v1 := HX10.out.cell1
          clear hb10 HB9 u0 u1 HU9
          go_wp2_with fail
          refine (HZ.out.fr w10 HB10.out x y).mono ?_
          rintro e w11 ⟨rfl, hb11⟩
          have HB11 := Lib.hid (Below.then HB10.out hb11 (Nat.le_refl _))
          have HX11 := Lib.hid (HX5.out.go HB11.out)
          have v0 := HX11.out.cell0
          have v1 := HX11.out.cell1
          clear hb11 HB10 HX10
          go_wp2_with fail
          refine (HZ.out.ha w11 HB11.out x y).mono ?_
          rintro e w12 ⟨rfl, hb12⟩
          have HB12 := Lib.hid (Below.then HB11.out hb12 (Nat.le_refl _))
          clear hb12 HB11 HX11 v0 v1
          go_wp2_with fail
          refine (HZ.out.fl w12 HB12.out).mono ?_
          rintro e w13 ⟨v, rfl, ho, hb13⟩
          obtain ⟨Av, nv, cv, rfl, hxv⟩ := ho.shape
          obtain rfl : nv = 0 := hxv.len.symm
          have HB13 := Lib.hid (Below.then HB12.out hb13 (Nat.le_refl _))
          clear ho hb13 hxv HB12
          go_wp2_with fail
          refine (HZ.out.li w13 HB13.out).mono ?_
          rintro e w14 ⟨v, rfl, ho, hb14⟩
          obtain ⟨Aw, nw, cw, rfl, hxw⟩ := ho.shape
          obtain rfl : nw = 0 := hxw.len.symm
          have HB14 := Lib.hid (Below.then HB13.out hb14 (Nat.le_refl _))
          clear ho hb14 hxw HB13
          go_wp2
          go_roundw
          case rel =>
            exact ⟨_, rfl, .inr (.inr rfl), HB14⟩
          case measure => simp [intV]

        · go_wp2_with fail
          refine (awake6_any wr).mono ?_
          rintro e w6 ⟨rfl, hb⟩
          have HB6 := Lib.hid (Below.trans HB5.out ((hh.out.trans (hb.mono hsz)).mono HB5.out.size))
          clear hb
          go_wp2
          go_ret
          exact ⟨rfl, HB6.out⟩
  · refine (new_bad s w1 (by omega)).mono ?_
    rintro e w2 ⟨rfl, hb2⟩
    have HBX2 := Lib.hid (HBX.out.go hb2)
    have HB2 := Lib.hid (Below.then HB0.out hb2 (by have := HB0.out.size; omega))
    clear hb2 HBX HB0
    by_cases hnear : b < 2
    · go_wp2_with fail
      refine (new_ok (1048575 + b) w2 (by omega) (by omega)).mono ?_
      rintro e w3 ⟨p', rfl, _, hb3, _⟩
      have HBX3 := Lib.hid (HBX2.out.go hb3)
      have HB3 := Lib.hid (Below.then HB2.out hb3 (by have := HB2.out.size; omega))
      clear hb3 HBX2 HB2
      have hbz : (b == 2) = false := by simp; omega
      go_wp2_with fail
      have HB5 : Hid (Below w.heap.size w ((w3.alloc (.cells #[.slice none 0 0, .slice none 0 0] 41)).alloc (.cells #[.pointer none, .pointer (some ⟨w3.heap.size, 0, none⟩)] 24))) := Lib.hid ((HB3.out.alloc HB3.out.size _).alloc (Nat.le_trans HB3.out.size (by simp)) _)
      have HX5 := Lib.hid ((HBX3.out.go ((Below.refl _ _).alloc (Nat.le_refl _) _)).go (((Below.refl _ _).alloc (Nat.le_refl _) (.cells #[.pointer none, .pointer (some ⟨w3.heap.size, 0, none⟩)] 24)) : Below _ (w3.alloc (.cells #[.slice none 0 0, .slice none 0 0] 41)) _))
      have HZ2 := Lib.hid (two_zero w3)
      have hrow := heap_alloc_new (w3.alloc (.cells #[.slice none 0 0, .slice none 0 0] 41)) (.cells #[.pointer none, .pointer (some ⟨w3.heap.size, 0, none⟩)] 24)
      rw [show (w3.alloc (.cells #[.slice none 0 0, .slice none 0 0] 41)).heap.size = w3.heap.size + 1 by simp] at hrow
      have HR := Lib.hid hrow
      clear hrow HB3 HBX3
      generalize ((w3.alloc (.cells #[.slice none 0 0, .slice none 0 0] 41)).alloc (.cells #[.pointer none, .pointer (some ⟨w3.heap.size, 0, none⟩)] 24)) = w5 at *
      have HZ1 := Lib.hid (zc_nil w5)
      go_loopw [78] (fun iv wr => ∃ i : Int, iv = .int .i64 i ∧ (i = 0 ∨ i = 1 ∨ i = 2) ∧ Hid (Below w5.heap.size w5 wr)) (fun iv _ => intV iv)
      case atStart => exact ⟨0, rfl, .inl rfl, Lib.hid (Below.refl _ _)⟩
      case round =>
        obtain ⟨i, rfl, hi, hh⟩ := hrel
        have hsz := hh.out.size
        have hlt5 : w3.heap.size + 1 < w5.heap.size := (Array.getElem?_eq_some_iff.1 HR.out).1
        have hbx5 := HX5.out.lt
        have HRr : Hid (wr.heap[w3.heap.size + 1]? = some (.cells #[.pointer none, .pointer (some ⟨w3.heap.size, 0, none⟩)] 24 (0, 0))) := Lib.hid ((hh.out.block _ hlt5).trans HR.out)
        have c0 := cell_of_row wr (w3.heap.size + 1) 0 _ _ _ HRr.out
        have c1 := cell_of_row wr (w3.heap.size + 1) 1 _ _ _ HRr.out
        rcases hi with rfl | rfl | rfl
        · have HZ := HZ1
          have HRd := Lib.hid (rd_of HZ.out n)
          generalize (chR [] n).2 = r at *
          have HM := Lib.hid (mdl_zero wr)
          have hb6 : Below w5.heap.size w5 (wr.alloc (.cells #[.int .i64 0, .slice none 0 0] 31)) := hh.out.alloc hsz _
          have HB6 := Lib.hid hb6
          clear HRr hb6
          go_wp2_with fail
          generalize wr.alloc (.cells #[.int .i64 0, .slice none 0 0] 31) = w6 at *
          refine (HRd.out.al w6 HB6.out).mono ?_
          rintro e w7 ⟨rfl, hb7⟩
          have hb8 : Below w6.heap.size w6 (w7.alloc (.cells #[.int .i64 0, .int .i64 0] 39)) := hb7.alloc hb7.size _
          have HM8 := Lib.hid (HM.out.go hb8)
          have HB8 := Lib.hid (Below.then HB6.out hb8 (Nat.le_refl _))
          have HU8 := Lib.hid (Box.new (w := w7) (x := 0) (y := 0))
          clear hb7 hb8 HM HB6 c0 c1
          go_wp2_with fail
          generalize w7.alloc (.cells #[.int .i64 0, .int .i64 0] 39) = w8 at *
          refine (HRd.out.mf _ _ w8 HM8.out).mono ?_
          rintro e w9 ⟨rfl, hb9⟩
          have HB9 := Lib.hid (Below.then HB8.out hb9 (Nat.le_refl _))
          have HU9 := Lib.hid (HU8.out.go hb9)
          have u0 := HU9.out.cell0
          have u1 := HU9.out.cell1
          clear hb9 HM8 HB8 HU8
          go_wp2_with fail
          refine (HRd.out.fi w9 HB9.out).mono ?_
          rintro e w10 ⟨rfl, hb10⟩
          have HB10 := Lib.hid (Below.then HB9.out hb10 (Nat.le_refl _))
          have HX10 := Lib.hid (HX5.out.go HB10.out)
          have v0 := HX10.out.cell0
          have v1 := HX10.out.cell1
          clear hb10 HB9 u0 u1 HU9
          go_wp2_with fail
          refine (HZ.out.fr w10 HB10.out x y).mono ?_
          rintro e w11 ⟨rfl, hb11⟩
          have HB11 := Lib.hid (Below.then HB10.out hb11 (Nat.le_refl _))
          have HX11 := Lib.hid (HX5.out.go HB11.out)
          have v0 := HX11.out.cell0
          have v1 := HX11.out.cell1
          clear hb11 HB10 HX10
          go_wp2_with fail
          refine (HZ.out.ha w11 HB11.out x y).mono ?_
          rintro e w12 ⟨rfl, hb12⟩
          have HB12 := Lib.hid (Below.then HB11.out hb12 (Nat.le_refl _))
          clear hb12 HB11 HX11 v0 v1
          go_wp2_with fail
          refine (HZ.out.fl w12 HB12.out).mono ?_
          rintro e w13 ⟨v, rfl, ho, hb13⟩
          obtain ⟨Av, nv, cv, rfl, hxv⟩ := ho.shape
          obtain rfl : nv = 0 := hxv.len.symm
          have HB13 := Lib.hid (Below.then HB12.out hb13 (Nat.le_refl _))
          clear ho hb13 hxv HB12
          go_wp2_with fail
          refine (HZ.out.li w13 HB13.out).mono ?_
          rintro e w14 ⟨v, rfl, ho, hb14⟩
          obtain ⟨Aw, nw, cw, rfl, hxw⟩ := ho.shape
          obtain rfl : nw = 0 := hxw.len.symm
          have HB14 := Lib.hid (Below.then HB13.out hb14 (Nat.le_refl _))
          clear ho hb14 hxw HB13
          go_wp2
          go_roundw
          case rel =>
            exact ⟨_, rfl, .inr (.inl rfl), HB14⟩
          case measure => simp [intV]

        · have HZ := HZ2
          have HRd := Lib.hid (rd_of HZ.out n)
          generalize (chR [] n).2 = r at *
          have HM := Lib.hid (mdl_zero wr)
          have hb6 : Below w5.heap.size w5 (wr.alloc (.cells #[.int .i64 0, .slice none 0 0] 31)) := hh.out.alloc hsz _
          have HB6 := Lib.hid hb6
          clear HRr hb6
          go_wp2_with fail
          generalize wr.alloc (.cells #[.int .i64 0, .slice none 0 0] 31) = w6 at *
          refine (HRd.out.al w6 HB6.out).mono ?_
          rintro e w7 ⟨rfl, hb7⟩
          have hb8 : Below w6.heap.size w6 (w7.alloc (.cells #[.int .i64 0, .int .i64 0] 39)) := hb7.alloc hb7.size _
          have HM8 := Lib.hid (HM.out.go hb8)
          have HB8 := Lib.hid (Below.then HB6.out hb8 (Nat.le_refl _))
          have HU8 := Lib.hid (Box.new (w := w7) (x := 0) (y := 0))
          clear hb7 hb8 HM HB6 c0 c1
          go_wp2_with fail
          generalize w7.alloc (.cells #[.int .i64 0, .int .i64 0] 39) = w8 at *
          refine (HRd.out.mf _ _ w8 HM8.out).mono ?_
          rintro e w9 ⟨rfl, hb9⟩
          have HB9 := Lib.hid (Below.then HB8.out hb9 (Nat.le_refl _))
          have HU9 := Lib.hid (HU8.out.go hb9)
          have u0 := HU9.out.cell0
          have u1 := HU9.out.cell1
          clear hb9 HM8 HB8 HU8
          go_wp2_with fail
          refine (HRd.out.fi w9 HB9.out).mono ?_
          rintro e w10 ⟨rfl, hb10⟩
          have HB10 := Lib.hid (Below.then HB9.out hb10 (Nat.le_refl _))
          have HX10 := Lib.hid (HX5.out.go HB10.out)
          have v0 := HX10.out.cell0
          have v1 := HX10.out.cell1
          clear hb10 HB9 u0 u1 HU9
          go_wp2_with fail
          refine (HZ.out.fr w10 HB10.out x y).mono ?_
          rintro e w11 ⟨rfl, hb11⟩
          have HB11 := Lib.hid (Below.then HB10.out hb11 (Nat.le_refl _))
          have HX11 := Lib.hid (HX5.out.go HB11.out)
          have v0 := HX11.out.cell0
          have v1 := HX11.out.cell1
          clear hb11 HB10 HX10
          go_wp2_with fail
          refine (HZ.out.ha w11 HB11.out x y).mono ?_
          rintro e w12 ⟨rfl, hb12⟩
          have HB12 := Lib.hid (Below.then HB11.out hb12 (Nat.le_refl _))
          clear hb12 HB11 HX11 v0 v1
          go_wp2_with fail
          refine (HZ.out.fl w12 HB12.out).mono ?_
          rintro e w13 ⟨v, rfl, ho, hb13⟩
          obtain ⟨Av, nv, cv, rfl, hxv⟩ := ho.shape
          obtain rfl : nv = 0 := hxv.len.symm
          have HB13 := Lib.hid (Below.then HB12.out hb13 (Nat.le_refl _))
          clear ho hb13 hxv HB12
          go_wp2_with fail
          refine (HZ.out.li w13 HB13.out).mono ?_
          rintro e w14 ⟨v, rfl, ho, hb14⟩
          obtain ⟨Aw, nw, cw, rfl, hxw⟩ := ho.shape
          obtain rfl : nw = 0 := hxw.len.symm
          have HB14 := Lib.hid (Below.then HB13.out hb14 (Nat.le_refl _))
          clear ho hb14 hxw HB13
          go_wp2
          go_roundw
          case rel =>
            exact ⟨_, rfl, .inr (.inr rfl), HB14⟩
          case measure => simp [intV]

        · go_wp2_with fail
          refine (awake6_any wr).mono ?_
          rintro e w6 ⟨rfl, hb⟩
          have HB6 := Lib.hid (Below.trans HB5.out ((hh.out.trans (hb.mono hsz)).mono HB5.out.size))
          clear hb
          go_wp2
          go_ret
          exact ⟨rfl, HB6.out⟩
    · obtain rfl : b = 2 := by omega
      go_wp2_with fail
      refine (new_bad 1048577 w2 (by omega)).mono ?_
      rintro e w3 ⟨rfl, hb3⟩
      have HBX3 := Lib.hid (HBX2.out.go hb3)
      have HB3 := Lib.hid (Below.then HB2.out hb3 (by have := HB2.out.size; omega))
      clear hb3 HBX2 HB2
      go_wp2_with fail
      have HB5 : Hid (Below w.heap.size w ((w3.alloc (.cells #[.slice none 0 0, .slice none 0 0] 41)).alloc (.cells #[.pointer none, .pointer (some ⟨w3.heap.size, 0, none⟩)] 24))) := Lib.hid ((HB3.out.alloc HB3.out.size _).alloc (Nat.le_trans HB3.out.size (by simp)) _)
      have HX5 := Lib.hid ((HBX3.out.go ((Below.refl _ _).alloc (Nat.le_refl _) _)).go (((Below.refl _ _).alloc (Nat.le_refl _) (.cells #[.pointer none, .pointer (some ⟨w3.heap.size, 0, none⟩)] 24)) : Below _ (w3.alloc (.cells #[.slice none 0 0, .slice none 0 0] 41)) _))
      have HZ2 := Lib.hid (two_zero w3)
      have hrow := heap_alloc_new (w3.alloc (.cells #[.slice none 0 0, .slice none 0 0] 41)) (.cells #[.pointer none, .pointer (some ⟨w3.heap.size, 0, none⟩)] 24)
      rw [show (w3.alloc (.cells #[.slice none 0 0, .slice none 0 0] 41)).heap.size = w3.heap.size + 1 by simp] at hrow
      have HR := Lib.hid hrow
      clear hrow HB3 HBX3
      generalize ((w3.alloc (.cells #[.slice none 0 0, .slice none 0 0] 41)).alloc (.cells #[.pointer none, .pointer (some ⟨w3.heap.size, 0, none⟩)] 24)) = w5 at *
      have HZ1 := Lib.hid (zc_nil w5)
      go_loopw [78] (fun iv wr => ∃ i : Int, iv = .int .i64 i ∧ (i = 0 ∨ i = 1 ∨ i = 2) ∧ Hid (Below w5.heap.size w5 wr)) (fun iv _ => intV iv)
      case atStart => exact ⟨0, rfl, .inl rfl, Lib.hid (Below.refl _ _)⟩
      case round =>
        obtain ⟨i, rfl, hi, hh⟩ := hrel
        have hsz := hh.out.size
        have hlt5 : w3.heap.size + 1 < w5.heap.size := (Array.getElem?_eq_some_iff.1 HR.out).1
        have hbx5 := HX5.out.lt
        have HRr : Hid (wr.heap[w3.heap.size + 1]? = some (.cells #[.pointer none, .pointer (some ⟨w3.heap.size, 0, none⟩)] 24 (0, 0))) := Lib.hid ((hh.out.block _ hlt5).trans HR.out)
        have c0 := cell_of_row wr (w3.heap.size + 1) 0 _ _ _ HRr.out
        have c1 := cell_of_row wr (w3.heap.size + 1) 1 _ _ _ HRr.out
        rcases hi with rfl | rfl | rfl
        · have HZ := HZ1
          have HRd := Lib.hid (rd_of HZ.out n)
          generalize (chR [] n).2 = r at *
          have HM := Lib.hid (mdl_zero wr)
          have hb6 : Below w5.heap.size w5 (wr.alloc (.cells #[.int .i64 0, .slice none 0 0] 31)) := hh.out.alloc hsz _
          have HB6 := Lib.hid hb6
          clear HRr hb6
          go_wp2_with fail
          generalize wr.alloc (.cells #[.int .i64 0, .slice none 0 0] 31) = w6 at *
          refine (HRd.out.al w6 HB6.out).mono ?_
          rintro e w7 ⟨rfl, hb7⟩
          have hb8 : Below w6.heap.size w6 (w7.alloc (.cells #[.int .i64 0, .int .i64 0] 39)) := hb7.alloc hb7.size _
          have HM8 := Lib.hid (HM.out.go hb8)
          have HB8 := Lib.hid (Below.then HB6.out hb8 (Nat.le_refl _))
          have HU8 := Lib.hid (Box.new (w := w7) (x := 0) (y := 0))
          clear hb7 hb8 HM HB6 c0 c1
          go_wp2_with fail
          generalize w7.alloc (.cells #[.int .i64 0, .int .i64 0] 39) = w8 at *
          refine (HRd.out.mf _ _ w8 HM8.out).mono ?_
          rintro e w9 ⟨rfl, hb9⟩
          have HB9 := Lib.hid (Below.then HB8.out hb9 (Nat.le_refl _))
          have HU9 := Lib.hid (HU8.out.go hb9)
          have u0 := HU9.out.cell0
          have u1 := HU9.out.cell1
          clear hb9 HM8 HB8 HU8
          go_wp2_with fail
          refine (HRd.out.fi w9 HB9.out).mono ?_
          rintro e w10 ⟨rfl, hb10⟩
          have HB10 := Lib.hid (Below.then HB9.out hb10 (Nat.le_refl _))
          have HX10 := Lib.hid (HX5.out.go HB10.out)
          have v0 := HX10.out.cell0
          have v1 := HX10.out.cell1
          clear hb10 HB9 u0 u1 HU9
          go_wp2_with fail
          refine (HZ.out.fr w10 HB10.out x y).mono ?_
          rintro e w11 ⟨rfl, hb11⟩
          have HB11 := Lib.hid (Below.then HB10.out hb11 (Nat.le_refl _))
          have HX11 := Lib.hid (HX5.out.go HB11.out)
          have v0 := HX11.out.cell0
          have v1 := HX11.out.cell1
          clear hb11 HB10 HX10
          go_wp2_with fail
          refine (HZ.out.ha w11 HB11.out x y).mono ?_
          rintro e w12 ⟨rfl, hb12⟩
          have HB12 := Lib.hid (Below.then HB11.out hb12 (Nat.le_refl _))
          clear hb12 HB11 HX11 v0 v1
          go_wp2_with fail
          refine (HZ.out.fl w12 HB12.out).mono ?_
          rintro e w13 ⟨v, rfl, ho, hb13⟩
          obtain ⟨Av, nv, cv, rfl, hxv⟩ := ho.shape
          obtain rfl : nv = 0 := hxv.len.symm
          have HB13 := Lib.hid (Below.then HB12.out hb13 (Nat.le_refl _))
          clear ho hb13 hxv HB12
          go_wp2_with fail
          refine (HZ.out.li w13 HB13.out).mono ?_
          rintro e w14 ⟨v, rfl, ho, hb14⟩
          obtain ⟨Aw, nw, cw, rfl, hxw⟩ := ho.shape
          obtain rfl : nw = 0 := hxw.len.symm
          have HB14 := Lib.hid (Below.then HB13.out hb14 (Nat.le_refl _))
          clear ho hb14 hxw HB13
          go_wp2
          go_roundw
          case rel =>
            exact ⟨_, rfl, .inr (.inl rfl), HB14⟩
          case measure => simp [intV]

        · have HZ := HZ2
          have HRd := Lib.hid (rd_of HZ.out n)
          generalize (chR [] n).2 = r at *
          have HM := Lib.hid (mdl_zero wr)
          have hb6 : Below w5.heap.size w5 (wr.alloc (.cells #[.int .i64 0, .slice none 0 0] 31)) := hh.out.alloc hsz _
          have HB6 := Lib.hid hb6
          clear HRr hb6
          go_wp2_with fail
          generalize wr.alloc (.cells #[.int .i64 0, .slice none 0 0] 31) = w6 at *
          refine (HRd.out.al w6 HB6.out).mono ?_
          rintro e w7 ⟨rfl, hb7⟩
          have hb8 : Below w6.heap.size w6 (w7.alloc (.cells #[.int .i64 0, .int .i64 0] 39)) := hb7.alloc hb7.size _
          have HM8 := Lib.hid (HM.out.go hb8)
          have HB8 := Lib.hid (Below.then HB6.out hb8 (Nat.le_refl _))
          have HU8 := Lib.hid (Box.new (w := w7) (x := 0) (y := 0))
          clear hb7 hb8 HM HB6 c0 c1
          go_wp2_with fail
          generalize w7.alloc (.cells #[.int .i64 0, .int .i64 0] 39) = w8 at *
          refine (HRd.out.mf _ _ w8 HM8.out).mono ?_
          rintro e w9 ⟨rfl, hb9⟩
          have HB9 := Lib.hid (Below.then HB8.out hb9 (Nat.le_refl _))
          have HU9 := Lib.hid (HU8.out.go hb9)
          have u0 := HU9.out.cell0
          have u1 := HU9.out.cell1
          clear hb9 HM8 HB8 HU8
          go_wp2_with fail
          refine (HRd.out.fi w9 HB9.out).mono ?_
          rintro e w10 ⟨rfl, hb10⟩
          have HB10 := Lib.hid (Below.then HB9.out hb10 (Nat.le_refl _))
          have HX10 := Lib.hid (HX5.out.go HB10.out)
          have v0 := HX10.out.cell0
          have v1 := HX10.out.cell1
          clear hb10 HB9 u0 u1 HU9
          go_wp2_with fail
          refine (HZ.out.fr w10 HB10.out x y).mono ?_
          rintro e w11 ⟨rfl, hb11⟩
          have HB11 := Lib.hid (Below.then HB10.out hb11 (Nat.le_refl _))
          have HX11 := Lib.hid (HX5.out.go HB11.out)
          have v0 := HX11.out.cell0
          have v1 := HX11.out.cell1
          clear hb11 HB10 HX10
          go_wp2_with fail
          refine (HZ.out.ha w11 HB11.out x y).mono ?_
          rintro e w12 ⟨rfl, hb12⟩
          have HB12 := Lib.hid (Below.then HB11.out hb12 (Nat.le_refl _))
          clear hb12 HB11 HX11 v0 v1
          go_wp2_with fail
          refine (HZ.out.fl w12 HB12.out).mono ?_
          rintro e w13 ⟨v, rfl, ho, hb13⟩
          obtain ⟨Av, nv, cv, rfl, hxv⟩ := ho.shape
          obtain rfl : nv = 0 := hxv.len.symm
          have HB13 := Lib.hid (Below.then HB12.out hb13 (Nat.le_refl _))
          clear ho hb13 hxv HB12
          go_wp2_with fail
          refine (HZ.out.li w13 HB13.out).mono ?_
          rintro e w14 ⟨v, rfl, ho, hb14⟩
          obtain ⟨Aw, nw, cw, rfl, hxw⟩ := ho.shape
          obtain rfl : nw = 0 := hxw.len.symm
          have HB14 := Lib.hid (Below.then HB13.out hb14 (Nat.le_refl _))
          clear ho hb14 hxw HB13
          go_wp2
          go_roundw
          case rel =>
            exact ⟨_, rfl, .inr (.inr rfl), HB14⟩
          case measure => simp [intV]

        · go_wp2_with fail
          refine (awake6_any wr).mono ?_
          rintro e w6 ⟨rfl, hb⟩
          have HB6 := Lib.hid (Below.trans HB5.out ((hh.out.trans (hb.mono hsz)).mono HB5.out.size))
          clear hb
          go_wp2
          go_ret
          exact ⟨rfl, HB6.out⟩
end Go.Proofs.Ytbiamhandhbodaa
