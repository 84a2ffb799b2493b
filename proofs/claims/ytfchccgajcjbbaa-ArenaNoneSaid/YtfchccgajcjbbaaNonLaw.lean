/-
  The law ArenaNone as a walk: it returns true and changes nothing that was there. No conditions.
-/
import Derived.Test.YtfchccgajcjbbaaZar
import Derived.Test.YtfchccgajcjbbaaAlk
import Derived.Test.YtfchccgajcjbbaaOpen
namespace Go.Proofs.Ytfchccgajcjbbaa
open Go.ChangeShapes Go.WideShapes Go.ChangeAt Go.RowKit
set_option linter.unusedVariables false
set_option maxHeartbeats 60000000
set_option maxRecDepth 100000

def intV : Value → Nat | .int _ n => (2 - n).toNat | _ => 0
/-- The two arenas without bytes that the law tries, and the row that holds them. -/
theorem za_two (w3 : World) : Za ((w3.alloc (.cells #[.pointer none, .slice none 0 0] 56)).alloc (.cells #[.pointer none, .pointer (some ⟨w3.heap.size, 0, none⟩)] 23)) w3.heap.size := by
  have h : Za (w3.alloc (.cells #[.pointer none, .slice none 0 0] 56)) w3.heap.size := heap_alloc_new w3 _
  exact h.go ((Below.refl _ _).alloc (Nat.le_refl _) _)
theorem mdl_zero (w : World) : Mdl (w.alloc (.cells #[.int .i64 0, .slice none 0 0] 64)) (fun _ => 2) 2 w.heap.size 0 [] [] 64 :=
  ⟨_, heap_alloc_new w _, OwnE.nil _ _ _, rfl, fun g hg => by simp [Value.ownBlock] at hg⟩
theorem fitsM_zero (n : Int) (w : World) : Calls Try.prog 29 #[.pointer (some ⟨w.heap.size, 0, none⟩), .int .i64 n] (w.alloc (.cells #[.int .i64 0, .slice none 0 0] 64)) fun e w' => e = .returned (.int .i64 (chR [] n).2) ∧ Below w.heap.size w w' :=
  (fitsR_any (fun _ => 2) 2 w.heap.size 0 n [] [] [] _ (mdl_zero w) gd_zero (List.Perm.refl _) (by simp)).mono fun _ _ ⟨he, hb⟩ => ⟨he, Below.trans ((Below.refl _ _).alloc (Nat.le_refl _) _) (hb.mono (by simp))⟩

theorem arenaNone_walk (s x y k v : Int) (w : World) (h0 : (Lit.int .i64 s).wf = true) (h1 : (Lit.int .i64 x).wf = true) (h2 : (Lit.int .i64 y).wf = true) (h3 : (Lit.int .i64 k).wf = true) (h4 : (Lit.int .u64 v).wf = true) :
    Calls Try.prog 5 #[.int .i64 s, .agg #[.int .i64 x, .int .i64 y], .int .i64 k, .int .u64 v] w fun e w' => e = .returned (.bool true) ∧ Below w.heap.size w w' := by
  have hb0 : Below w.heap.size w (w.alloc (.cells #[.int .i64 x, .int .i64 y] 31)) := (Below.refl _ _).alloc (Nat.le_refl _) _
  have HBX := Lib.hid (Box.new (w := w) (x := x) (y := y))
  have HB0 := Lib.hid hb0
  clear hb0 h0 h1 h2 h3 h4
  go_enter Try.func5, Try.ntmps5
  go_wp2_with fail
  generalize w.alloc (.cells #[.int .i64 x, .int .i64 y] 31) = w1 at *
  have hsp : (0 ≤ s ∧ s ≤ 1048576) ∨ (0 ≤ s ∧ ¬ s ≤ 1048576) ∨ ¬ 0 ≤ s := by omega
  rcases hsp with hok | hok | hok
  · obtain ⟨S, rfl⟩ := Int.eq_ofNat_of_zero_le hok.1
    have hs0 := hok.1
    have hs1 := hok.2
    refine (newA_ok (fun _ => 0) S w1 (by omega)).mono ?_
    rintro e w3 ⟨c1, a1, p1, g1, rfl, _, hb2, _⟩
    have HBX3 := Lib.hid (HBX.out.go hb2)
    have HB3 := Lib.hid (Below.then HB0.out hb2 (by have := HB0.out.size; omega))
    clear hb2 HBX HB0
    go_wp2_with fail
    have HB5 : Hid (Below w.heap.size w ((w3.alloc (.cells #[.pointer none, .slice none 0 0] 56)).alloc (.cells #[.pointer none, .pointer (some ⟨w3.heap.size, 0, none⟩)] 23))) := Lib.hid ((HB3.out.alloc HB3.out.size _).alloc (Nat.le_trans HB3.out.size (by simp)) _)
    have HX5 := Lib.hid ((HBX3.out.go ((Below.refl _ _).alloc (Nat.le_refl _) _)).go (((Below.refl _ _).alloc (Nat.le_refl _) (.cells #[.pointer none, .pointer (some ⟨w3.heap.size, 0, none⟩)] 23)) : Below _ (w3.alloc (.cells #[.pointer none, .slice none 0 0] 56)) _))
    have HZ2 := Lib.hid (za_two w3)
    have hrow := heap_alloc_new (w3.alloc (.cells #[.pointer none, .slice none 0 0] 56)) (.cells #[.pointer none, .pointer (some ⟨w3.heap.size, 0, none⟩)] 23)
    rw [show (w3.alloc (.cells #[.pointer none, .slice none 0 0] 56)).heap.size = w3.heap.size + 1 by simp] at hrow
    have HR := Lib.hid hrow
    clear hrow HB3 HBX3
    generalize ((w3.alloc (.cells #[.pointer none, .slice none 0 0] 56)).alloc (.cells #[.pointer none, .pointer (some ⟨w3.heap.size, 0, none⟩)] 23)) = w5 at *
    have HF := Lib.hid (fun W => fitsM_zero k W)
    have HG := Lib.hid (fun a W (h : Ba W a) => fits_ba a k W h)
    generalize (chR [] k).2 = r at *
    go_loopw [53] (fun iv wr => ∃ i : Nat, i ≤ 2 ∧ iv = .int .i64 i ∧ Hid (Below w5.heap.size w5 wr)) (fun iv _ => intV iv)
    case atStart => exact ⟨0, by omega, rfl, Lib.hid (Below.refl _ _)⟩
    case round =>
      obtain ⟨i, hi, rfl, hh⟩ := hrel
      have hsz := hh.out.size
      have hlt5 : w3.heap.size + 1 < w5.heap.size := (Array.getElem?_eq_some_iff.1 HR.out).1
      have hrow := (hh.out.block _ hlt5).trans HR.out
      by_cases hlt : i < 2
      · have hlt' : (i : Int) < 2 := by omega
        have hz : ∃ a : Option Addr, wr.cell? ⟨w3.heap.size + 1, i, none⟩ = some (.pointer a) ∧ Ba wr a := by
          have hc := fun j => cell_of_row wr (w3.heap.size + 1) j _ _ _ hrow
          obtain rfl | rfl : i = 0 ∨ i = 1 := by omega
          · exact ⟨none, hc 0, ba_nil wr⟩
          · exact ⟨_, hc 1, ba_zero (HZ2.out.go hh.out)⟩
        obtain ⟨a, hcell, hba⟩ := hz
        have HA := Lib.hid hba
        have HX6 := Lib.hid (HX5.out.go hh.out)
        have HB6 := Lib.hid hh.out
        have v0 := HX6.out.cell0
        have v1 := HX6.out.cell1
        clear hrow hba hh
        go_wp2_with fail
        refine (load_ba a x y k k wr HA.out).mono ?_
        rintro e w7 ⟨rfl, hb⟩
        have HA7 := Lib.hid (HA.out.go hb)
        have HX7 := Lib.hid (HX6.out.go hb)
        have HB7 := Lib.hid (Below.then HB6.out hb (Nat.le_refl _))
        clear hb HA HX6 HB6 v0 v1 hcell
        have v0 := HX7.out.cell0
        have v1 := HX7.out.cell1
        go_wp2_with fail
        refine (read_ba a x y k k w7 HA7.out).mono ?_
        rintro e w8 ⟨rfl, hb⟩
        have HA8 := Lib.hid (HA7.out.go hb)
        have HX8 := Lib.hid (HX7.out.go hb)
        have HB8 := Lib.hid (Below.then HB7.out hb (Nat.le_refl _))
        clear hb HA7 HX7 HB7 v0 v1
        have v0 := HX8.out.cell0
        have v1 := HX8.out.cell1
        go_wp2_with fail
        refine (store_ba a x y k k v w8 HA8.out).mono ?_
        rintro e w9 ⟨rfl, hb⟩
        have HA9 := Lib.hid (HA8.out.go hb)
        have HX9 := Lib.hid (HX8.out.go hb)
        have HB9 := Lib.hid (Below.then HB8.out hb (Nat.le_refl _))
        clear hb HA8 HX8 HB8 v0 v1
        have v0 := HX9.out.cell0
        have v1 := HX9.out.cell1
        go_wp2_with fail
        refine (write_ba a x y k w9 HA9.out).mono ?_
        rintro e w10 ⟨rfl, hb⟩
        have HA10 := Lib.hid (HA9.out.go hb)
        have HX10 := Lib.hid (HX9.out.go hb)
        have HB10 := Lib.hid (Below.then HB9.out hb (Nat.le_refl _))
        clear hb HA9 HX9 HB9 v0 v1
        have v0 := HX10.out.cell0
        have v1 := HX10.out.cell1
        go_wp2_with fail
        refine (copy_ba a x y k x y k k w10 HA10.out).mono ?_
        rintro e w11 ⟨rfl, hb⟩
        have HA11 := Lib.hid (HA10.out.go hb)
        have HX11 := Lib.hid (HX10.out.go hb)
        have HB11 := Lib.hid (Below.then HB10.out hb (Nat.le_refl _))
        clear hb HA10 HX10 HB10 v0 v1
        have v0 := HX11.out.cell0
        have v1 := HX11.out.cell1
        go_wp2_with fail
        refine (free_ba a x y w11 HA11.out).mono ?_
        rintro e w12 ⟨rfl, hb⟩
        have HA12 := Lib.hid (HA11.out.go hb)
        have HB12 := Lib.hid (Below.then HB11.out hb (Nat.le_refl _))
        clear hb HA11 HX11 HB11 v0 v1
        go_wp2_with fail
        refine (freeList_ba a w12 HA12.out).mono ?_
        rintro e w13 ⟨vv, rfl, ho, hb⟩
        obtain ⟨Av, nv, cv, rfl, hxv⟩ := ho.shape
        obtain rfl : nv = 0 := hxv.len.symm
        have HA13 := Lib.hid (HA12.out.go hb)
        have HB13 := Lib.hid (Below.then HB12.out hb (Nat.le_refl _))
        clear ho hxv hb HA12 HB12
        go_wp2_with fail
        refine (HA13.out.by_ w13 (Below.refl _ _)).mono ?_
        rintro e w14 ⟨vv, rfl, ho, hb⟩
        obtain ⟨Aw, nw, cw, rfl, hxw⟩ := ho.shape
        obtain rfl : nw = 0 := hxw.len.symm
        have HA14 := Lib.hid (HA13.out.go hb)
        have HB14 := Lib.hid (Below.then HB13.out hb (Nat.le_refl _))
        clear ho hxw hb HA13 HB13
        go_wp2_with fail
        refine (HG.out a w14 HA14.out).mono ?_
        rintro e w15 ⟨rfl, hb⟩
        have HB15 := Lib.hid (Below.then HB14.out hb (Nat.le_refl _))
        clear hb HA14 HB14
        go_wp2_with fail
        refine (HF.out w15).mono ?_
        rintro e w16 ⟨rfl, hb⟩
        have HB16 := Lib.hid (Below.then HB15.out hb (Nat.le_refl _))
        clear hb HB15
        go_wp2
        go_roundw
        case rel => exact ⟨i + 1, by omega, by go_num, HB16⟩
        case measure => simp [intV]; omega
      · obtain rfl : i = 2 := by omega
        have HB6 := Lib.hid (Below.trans HB5.out (hh.out.mono HB5.out.size))
        clear hrow hh
        go_wp2_with fail
        refine (awake_any wr).mono ?_
        rintro e w6 ⟨rfl, hb⟩
        have HB7 := Lib.hid (Below.then HB6.out hb (Nat.le_refl _))
        clear hb
        go_wp2
        go_ret
        exact ⟨rfl, HB7.out⟩
  · have hs0 := hok.1
    have hs1 := hok.2
    refine (newA_bad s w1 (by omega)).mono ?_
    rintro e w3 ⟨rfl, hb2⟩
    have HBX3 := Lib.hid (HBX.out.go hb2)
    have HB3 := Lib.hid (Below.then HB0.out hb2 (by have := HB0.out.size; omega))
    clear hb2 HBX HB0
    go_wp2_with fail
    have HB5 : Hid (Below w.heap.size w ((w3.alloc (.cells #[.pointer none, .slice none 0 0] 56)).alloc (.cells #[.pointer none, .pointer (some ⟨w3.heap.size, 0, none⟩)] 23))) := Lib.hid ((HB3.out.alloc HB3.out.size _).alloc (Nat.le_trans HB3.out.size (by simp)) _)
    have HX5 := Lib.hid ((HBX3.out.go ((Below.refl _ _).alloc (Nat.le_refl _) _)).go (((Below.refl _ _).alloc (Nat.le_refl _) (.cells #[.pointer none, .pointer (some ⟨w3.heap.size, 0, none⟩)] 23)) : Below _ (w3.alloc (.cells #[.pointer none, .slice none 0 0] 56)) _))
    have HZ2 := Lib.hid (za_two w3)
    have hrow := heap_alloc_new (w3.alloc (.cells #[.pointer none, .slice none 0 0] 56)) (.cells #[.pointer none, .pointer (some ⟨w3.heap.size, 0, none⟩)] 23)
    rw [show (w3.alloc (.cells #[.pointer none, .slice none 0 0] 56)).heap.size = w3.heap.size + 1 by simp] at hrow
    have HR := Lib.hid hrow
    clear hrow HB3 HBX3
    generalize ((w3.alloc (.cells #[.pointer none, .slice none 0 0] 56)).alloc (.cells #[.pointer none, .pointer (some ⟨w3.heap.size, 0, none⟩)] 23)) = w5 at *
    have HF := Lib.hid (fun W => fitsM_zero k W)
    have HG := Lib.hid (fun a W (h : Ba W a) => fits_ba a k W h)
    generalize (chR [] k).2 = r at *
    go_loopw [53] (fun iv wr => ∃ i : Nat, i ≤ 2 ∧ iv = .int .i64 i ∧ Hid (Below w5.heap.size w5 wr)) (fun iv _ => intV iv)
    case atStart => exact ⟨0, by omega, rfl, Lib.hid (Below.refl _ _)⟩
    case round =>
      obtain ⟨i, hi, rfl, hh⟩ := hrel
      have hsz := hh.out.size
      have hlt5 : w3.heap.size + 1 < w5.heap.size := (Array.getElem?_eq_some_iff.1 HR.out).1
      have hrow := (hh.out.block _ hlt5).trans HR.out
      by_cases hlt : i < 2
      · have hlt' : (i : Int) < 2 := by omega
        have hz : ∃ a : Option Addr, wr.cell? ⟨w3.heap.size + 1, i, none⟩ = some (.pointer a) ∧ Ba wr a := by
          have hc := fun j => cell_of_row wr (w3.heap.size + 1) j _ _ _ hrow
          obtain rfl | rfl : i = 0 ∨ i = 1 := by omega
          · exact ⟨none, hc 0, ba_nil wr⟩
          · exact ⟨_, hc 1, ba_zero (HZ2.out.go hh.out)⟩
        obtain ⟨a, hcell, hba⟩ := hz
        have HA := Lib.hid hba
        have HX6 := Lib.hid (HX5.out.go hh.out)
        have HB6 := Lib.hid hh.out
        have v0 := HX6.out.cell0
        have v1 := HX6.out.cell1
        clear hrow hba hh
        go_wp2_with fail
        refine (load_ba a x y k k wr HA.out).mono ?_
        rintro e w7 ⟨rfl, hb⟩
        have HA7 := Lib.hid (HA.out.go hb)
        have HX7 := Lib.hid (HX6.out.go hb)
        have HB7 := Lib.hid (Below.then HB6.out hb (Nat.le_refl _))
        clear hb HA HX6 HB6 v0 v1 hcell
        have v0 := HX7.out.cell0
        have v1 := HX7.out.cell1
        go_wp2_with fail
        refine (read_ba a x y k k w7 HA7.out).mono ?_
        rintro e w8 ⟨rfl, hb⟩
        have HA8 := Lib.hid (HA7.out.go hb)
        have HX8 := Lib.hid (HX7.out.go hb)
        have HB8 := Lib.hid (Below.then HB7.out hb (Nat.le_refl _))
        clear hb HA7 HX7 HB7 v0 v1
        have v0 := HX8.out.cell0
        have v1 := HX8.out.cell1
        go_wp2_with fail
        refine (store_ba a x y k k v w8 HA8.out).mono ?_
        rintro e w9 ⟨rfl, hb⟩
        have HA9 := Lib.hid (HA8.out.go hb)
        have HX9 := Lib.hid (HX8.out.go hb)
        have HB9 := Lib.hid (Below.then HB8.out hb (Nat.le_refl _))
        clear hb HA8 HX8 HB8 v0 v1
        have v0 := HX9.out.cell0
        have v1 := HX9.out.cell1
        go_wp2_with fail
        refine (write_ba a x y k w9 HA9.out).mono ?_
        rintro e w10 ⟨rfl, hb⟩
        have HA10 := Lib.hid (HA9.out.go hb)
        have HX10 := Lib.hid (HX9.out.go hb)
        have HB10 := Lib.hid (Below.then HB9.out hb (Nat.le_refl _))
        clear hb HA9 HX9 HB9 v0 v1
        have v0 := HX10.out.cell0
        have v1 := HX10.out.cell1
        go_wp2_with fail
        refine (copy_ba a x y k x y k k w10 HA10.out).mono ?_
        rintro e w11 ⟨rfl, hb⟩
        have HA11 := Lib.hid (HA10.out.go hb)
        have HX11 := Lib.hid (HX10.out.go hb)
        have HB11 := Lib.hid (Below.then HB10.out hb (Nat.le_refl _))
        clear hb HA10 HX10 HB10 v0 v1
        have v0 := HX11.out.cell0
        have v1 := HX11.out.cell1
        go_wp2_with fail
        refine (free_ba a x y w11 HA11.out).mono ?_
        rintro e w12 ⟨rfl, hb⟩
        have HA12 := Lib.hid (HA11.out.go hb)
        have HB12 := Lib.hid (Below.then HB11.out hb (Nat.le_refl _))
        clear hb HA11 HX11 HB11 v0 v1
        go_wp2_with fail
        refine (freeList_ba a w12 HA12.out).mono ?_
        rintro e w13 ⟨vv, rfl, ho, hb⟩
        obtain ⟨Av, nv, cv, rfl, hxv⟩ := ho.shape
        obtain rfl : nv = 0 := hxv.len.symm
        have HA13 := Lib.hid (HA12.out.go hb)
        have HB13 := Lib.hid (Below.then HB12.out hb (Nat.le_refl _))
        clear ho hxv hb HA12 HB12
        go_wp2_with fail
        refine (HA13.out.by_ w13 (Below.refl _ _)).mono ?_
        rintro e w14 ⟨vv, rfl, ho, hb⟩
        obtain ⟨Aw, nw, cw, rfl, hxw⟩ := ho.shape
        obtain rfl : nw = 0 := hxw.len.symm
        have HA14 := Lib.hid (HA13.out.go hb)
        have HB14 := Lib.hid (Below.then HB13.out hb (Nat.le_refl _))
        clear ho hxw hb HA13 HB13
        go_wp2_with fail
        refine (HG.out a w14 HA14.out).mono ?_
        rintro e w15 ⟨rfl, hb⟩
        have HB15 := Lib.hid (Below.then HB14.out hb (Nat.le_refl _))
        clear hb HA14 HB14
        go_wp2_with fail
        refine (HF.out w15).mono ?_
        rintro e w16 ⟨rfl, hb⟩
        have HB16 := Lib.hid (Below.then HB15.out hb (Nat.le_refl _))
        clear hb HB15
        go_wp2
        go_roundw
        case rel => exact ⟨i + 1, by omega, by go_num, HB16⟩
        case measure => simp [intV]; omega
      · obtain rfl : i = 2 := by omega
        have HB6 := Lib.hid (Below.trans HB5.out (hh.out.mono HB5.out.size))
        clear hrow hh
        go_wp2_with fail
        refine (awake_any wr).mono ?_
        rintro e w6 ⟨rfl, hb⟩
        have HB7 := Lib.hid (Below.then HB6.out hb (Nat.le_refl _))
        clear hb
        go_wp2
        go_ret
        exact ⟨rfl, HB7.out⟩
  · have hs0 : decide (0 ≤ s) = false := decide_eq_false hok
    refine (newA_bad s w1 (by omega)).mono ?_
    rintro e w3 ⟨rfl, hb2⟩
    have HBX3 := Lib.hid (HBX.out.go hb2)
    have HB3 := Lib.hid (Below.then HB0.out hb2 (by have := HB0.out.size; omega))
    clear hb2 HBX HB0
    go_wp2_with fail
    have HB5 : Hid (Below w.heap.size w ((w3.alloc (.cells #[.pointer none, .slice none 0 0] 56)).alloc (.cells #[.pointer none, .pointer (some ⟨w3.heap.size, 0, none⟩)] 23))) := Lib.hid ((HB3.out.alloc HB3.out.size _).alloc (Nat.le_trans HB3.out.size (by simp)) _)
    have HX5 := Lib.hid ((HBX3.out.go ((Below.refl _ _).alloc (Nat.le_refl _) _)).go (((Below.refl _ _).alloc (Nat.le_refl _) (.cells #[.pointer none, .pointer (some ⟨w3.heap.size, 0, none⟩)] 23)) : Below _ (w3.alloc (.cells #[.pointer none, .slice none 0 0] 56)) _))
    have HZ2 := Lib.hid (za_two w3)
    have hrow := heap_alloc_new (w3.alloc (.cells #[.pointer none, .slice none 0 0] 56)) (.cells #[.pointer none, .pointer (some ⟨w3.heap.size, 0, none⟩)] 23)
    rw [show (w3.alloc (.cells #[.pointer none, .slice none 0 0] 56)).heap.size = w3.heap.size + 1 by simp] at hrow
    have HR := Lib.hid hrow
    clear hrow HB3 HBX3
    generalize ((w3.alloc (.cells #[.pointer none, .slice none 0 0] 56)).alloc (.cells #[.pointer none, .pointer (some ⟨w3.heap.size, 0, none⟩)] 23)) = w5 at *
    have HF := Lib.hid (fun W => fitsM_zero k W)
    have HG := Lib.hid (fun a W (h : Ba W a) => fits_ba a k W h)
    generalize (chR [] k).2 = r at *
    go_loopw [53] (fun iv wr => ∃ i : Nat, i ≤ 2 ∧ iv = .int .i64 i ∧ Hid (Below w5.heap.size w5 wr)) (fun iv _ => intV iv)
    case atStart => exact ⟨0, by omega, rfl, Lib.hid (Below.refl _ _)⟩
    case round =>
      obtain ⟨i, hi, rfl, hh⟩ := hrel
      have hsz := hh.out.size
      have hlt5 : w3.heap.size + 1 < w5.heap.size := (Array.getElem?_eq_some_iff.1 HR.out).1
      have hrow := (hh.out.block _ hlt5).trans HR.out
      by_cases hlt : i < 2
      · have hlt' : (i : Int) < 2 := by omega
        have hz : ∃ a : Option Addr, wr.cell? ⟨w3.heap.size + 1, i, none⟩ = some (.pointer a) ∧ Ba wr a := by
          have hc := fun j => cell_of_row wr (w3.heap.size + 1) j _ _ _ hrow
          obtain rfl | rfl : i = 0 ∨ i = 1 := by omega
          · exact ⟨none, hc 0, ba_nil wr⟩
          · exact ⟨_, hc 1, ba_zero (HZ2.out.go hh.out)⟩
        obtain ⟨a, hcell, hba⟩ := hz
        have HA := Lib.hid hba
        have HX6 := Lib.hid (HX5.out.go hh.out)
        have HB6 := Lib.hid hh.out
        have v0 := HX6.out.cell0
        have v1 := HX6.out.cell1
        clear hrow hba hh
        go_wp2_with fail
        refine (load_ba a x y k k wr HA.out).mono ?_
        rintro e w7 ⟨rfl, hb⟩
        have HA7 := Lib.hid (HA.out.go hb)
        have HX7 := Lib.hid (HX6.out.go hb)
        have HB7 := Lib.hid (Below.then HB6.out hb (Nat.le_refl _))
        clear hb HA HX6 HB6 v0 v1 hcell
        have v0 := HX7.out.cell0
        have v1 := HX7.out.cell1
        go_wp2_with fail
        refine (read_ba a x y k k w7 HA7.out).mono ?_
        rintro e w8 ⟨rfl, hb⟩
        have HA8 := Lib.hid (HA7.out.go hb)
        have HX8 := Lib.hid (HX7.out.go hb)
        have HB8 := Lib.hid (Below.then HB7.out hb (Nat.le_refl _))
        clear hb HA7 HX7 HB7 v0 v1
        have v0 := HX8.out.cell0
        have v1 := HX8.out.cell1
        go_wp2_with fail
        refine (store_ba a x y k k v w8 HA8.out).mono ?_
        rintro e w9 ⟨rfl, hb⟩
        have HA9 := Lib.hid (HA8.out.go hb)
        have HX9 := Lib.hid (HX8.out.go hb)
        have HB9 := Lib.hid (Below.then HB8.out hb (Nat.le_refl _))
        clear hb HA8 HX8 HB8 v0 v1
        have v0 := HX9.out.cell0
        have v1 := HX9.out.cell1
        go_wp2_with fail
        refine (write_ba a x y k w9 HA9.out).mono ?_
        rintro e w10 ⟨rfl, hb⟩
        have HA10 := Lib.hid (HA9.out.go hb)
        have HX10 := Lib.hid (HX9.out.go hb)
        have HB10 := Lib.hid (Below.then HB9.out hb (Nat.le_refl _))
        clear hb HA9 HX9 HB9 v0 v1
        have v0 := HX10.out.cell0
        have v1 := HX10.out.cell1
        go_wp2_with fail
        refine (copy_ba a x y k x y k k w10 HA10.out).mono ?_
        rintro e w11 ⟨rfl, hb⟩
        have HA11 := Lib.hid (HA10.out.go hb)
        have HX11 := Lib.hid (HX10.out.go hb)
        have HB11 := Lib.hid (Below.then HB10.out hb (Nat.le_refl _))
        clear hb HA10 HX10 HB10 v0 v1
        have v0 := HX11.out.cell0
        have v1 := HX11.out.cell1
        go_wp2_with fail
        refine (free_ba a x y w11 HA11.out).mono ?_
        rintro e w12 ⟨rfl, hb⟩
        have HA12 := Lib.hid (HA11.out.go hb)
        have HB12 := Lib.hid (Below.then HB11.out hb (Nat.le_refl _))
        clear hb HA11 HX11 HB11 v0 v1
        go_wp2_with fail
        refine (freeList_ba a w12 HA12.out).mono ?_
        rintro e w13 ⟨vv, rfl, ho, hb⟩
        obtain ⟨Av, nv, cv, rfl, hxv⟩ := ho.shape
        obtain rfl : nv = 0 := hxv.len.symm
        have HA13 := Lib.hid (HA12.out.go hb)
        have HB13 := Lib.hid (Below.then HB12.out hb (Nat.le_refl _))
        clear ho hxv hb HA12 HB12
        go_wp2_with fail
        refine (HA13.out.by_ w13 (Below.refl _ _)).mono ?_
        rintro e w14 ⟨vv, rfl, ho, hb⟩
        obtain ⟨Aw, nw, cw, rfl, hxw⟩ := ho.shape
        obtain rfl : nw = 0 := hxw.len.symm
        have HA14 := Lib.hid (HA13.out.go hb)
        have HB14 := Lib.hid (Below.then HB13.out hb (Nat.le_refl _))
        clear ho hxw hb HA13 HB13
        go_wp2_with fail
        refine (HG.out a w14 HA14.out).mono ?_
        rintro e w15 ⟨rfl, hb⟩
        have HB15 := Lib.hid (Below.then HB14.out hb (Nat.le_refl _))
        clear hb HA14 HB14
        go_wp2_with fail
        refine (HF.out w15).mono ?_
        rintro e w16 ⟨rfl, hb⟩
        have HB16 := Lib.hid (Below.then HB15.out hb (Nat.le_refl _))
        clear hb HB15
        go_wp2
        go_roundw
        case rel => exact ⟨i + 1, by omega, by go_num, HB16⟩
        case measure => simp [intV]; omega
      · obtain rfl : i = 2 := by omega
        have HB6 := Lib.hid (Below.trans HB5.out (hh.out.mono HB5.out.size))
        clear hrow hh
        go_wp2_with fail
        refine (awake_any wr).mono ?_
        rintro e w6 ⟨rfl, hb⟩
        have HB7 := Lib.hid (Below.then HB6.out hb (Nat.le_refl _))
        clear hb
        go_wp2
        go_ret
        exact ⟨rfl, HB7.out⟩
end Go.Proofs.Ytfchccgajcjbbaa
