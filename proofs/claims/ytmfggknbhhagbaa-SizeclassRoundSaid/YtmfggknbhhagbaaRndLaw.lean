/-
  The law SizeclassRound as a walk: it returns true and changes nothing that was there. No conditions.
-/
import Derived.Test.YtmfggknbhhagbaaSizeR
namespace Go.Proofs.Ytmfggknbhhagbaa
open Go.ChangeShapes Go.WideShapes Go.ChangeAt Go.RowKit Go.Shelf
attribute [local go_sem] Oper.semAt_some
set_option maxHeartbeats 3200000
set_option maxRecDepth 100000

theorem sizeclassRound_walk (n k : Int) (w0 : World) (_h0 : (Lit.int .i64 n).wf = true) (h1 : (Lit.int .u32 k).wf = true) :
    Calls Try.prog 3 #[.int .i64 n, .int .u32 k] w0 fun e w' => e = .returned (.bool true) ∧ Below w0.heap.size w0 w' := by
  have hk := Go.bounds_u32 h1
  have HB0 := Lib.hid (Below.refl w0.heap.size w0)
  have R := Lib.hid (fun W => round_any n W)
  have RR := Lib.hid (fun W => roundR_any n W)
  have C := Lib.hid (fun W => class_any n W)
  have CR := Lib.hid (fun W => classR_any n W)
  have R' := Lib.hid (fun W => round_any (k % 65539) W)
  have RR' := Lib.hid (fun W => roundR_any (k % 65539) W)
  have C' := Lib.hid (fun W => class_any (k % 65539) W)
  have CR' := Lib.hid (fun W => classR_any (k % 65539) W)
  generalize szR n = a at *
  generalize clR n = b at *
  generalize erR n = c at *
  generalize szR (k % 65539) = a' at *
  generalize clR (k % 65539) = b' at *
  generalize erR (k % 65539) = c' at *
  clear h1
  go_enter Try.func3, Try.ntmps3
  go_wp2_with fail
  refine (R.out w0).mono ?_
  rintro e w1 ⟨rfl, hb⟩
  have HB1 := Lib.hid (Below.then HB0.out hb (Nat.le_refl _))
  clear hb
  go_wp2_with fail
  refine (RR.out w1).mono ?_
  rintro e w2 ⟨rfl, hb⟩
  have HB2 := Lib.hid (Below.then HB1.out hb (Nat.le_refl _))
  clear hb
  go_wp2_with fail
  refine (R'.out w2).mono ?_
  rintro e w3 ⟨rfl, hb⟩
  have HB3 := Lib.hid (Below.then HB2.out hb (Nat.le_refl _))
  clear hb
  go_wp2_with fail
  refine (RR'.out w3).mono ?_
  rintro e w4 ⟨rfl, hb⟩
  have HB4 := Lib.hid (Below.then HB3.out hb (Nat.le_refl _))
  clear hb
  go_wp2_with fail
  refine (C'.out w4).mono ?_
  rintro e w5 ⟨rfl, hb⟩
  have HB5 := Lib.hid (Below.then HB4.out hb (Nat.le_refl _))
  clear hb
  go_wp2_with fail
  refine (CR'.out w5).mono ?_
  rintro e w6 ⟨rfl, hb⟩
  have HB6 := Lib.hid (Below.then HB5.out hb (Nat.le_refl _))
  clear hb
  go_wp2_with fail
  refine (C.out w6).mono ?_
  rintro e w7 ⟨rfl, hb⟩
  have HB7 := Lib.hid (Below.then HB6.out hb (Nat.le_refl _))
  clear hb
  go_wp2_with fail
  refine (CR.out w7).mono ?_
  rintro e w8 ⟨rfl, hb⟩
  have HB8 := Lib.hid (Below.then HB7.out hb (Nat.le_refl _))
  clear hb
  go_wp2_with fail
  refine (awake_any w8).mono ?_
  rintro e w9 ⟨rfl, hb⟩
  have HB9 := Lib.hid (Below.then HB8.out hb (Nat.le_refl _))
  clear hb
  go_wp2
  go_ret
  exact ⟨rfl, HB9.out⟩
end Go.Proofs.Ytmfggknbhhagbaa
