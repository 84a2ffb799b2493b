/-
  The law EventApart as a walk: called with any arguments of its types it returns true. No conditions.
-/
import Derived.Test.YtfhcpgcjahjnmaaEbaLaw
namespace Go.Proofs.Ytfhcpgcjahjnmaa
open Go.ChangeShapes Go.WideShapes Go.ChangeAt Go.RowKit
set_option linter.unusedVariables false
set_option linter.unusedSimpArgs false
set_option maxHeartbeats 4000000
set_option maxRecDepth 100000

theorem str_list {s t : ByteArray} (h : s.toList = t.toList) : s = t := by
  rw [ByteArray.toList_eq, ByteArray.toList_eq] at h
  cases s
  cases t
  simp only [ByteArray.mk.injEq]
  exact Array.toList_inj.1 h
/-- Different bytes have different texts. -/
theorem str_inj {l m : List Int} (hl : Small l) (hm : Small m) (h : strOfNums l = strOfNums m) : l = m := by
  have h1 : l.map (fun n => UInt8.ofNat n.toNat) = m.map (fun n => UInt8.ofNat n.toNat) := by
    rw [← strOfNums_data, ← strOfNums_data, h]
  clear h
  induction l generalizing m with
  | nil =>
    cases m with
    | nil => rfl
    | cons y m => simp at h1
  | cons x l ih =>
    cases m with
    | nil => simp at h1
    | cons y m =>
      simp only [List.map_cons, List.cons.injEq] at h1
      have hx := hl x (by simp)
      have hy := hm y (by simp)
      have h2 := congrArg UInt8.toNat h1.1
      simp only [UInt8.toNat_ofNat'] at h2
      rw [Nat.mod_eq_of_lt (by omega), Nat.mod_eq_of_lt (by omega)] at h2
      have h3 : x = y := by omega
      rw [h3, ih (fun z hz => hl z (by simp [hz])) (fun z hz => hm z (by simp [hz])) h1.2]
theorem eventApart_walk (a0 : Option Addr) (len0 cap0 : Nat) (z0 : List Int) (a1 : Option Addr) (len1 cap1 : Nat) (z1 : List Int) (w : World) (w0 : IsRow .u16 w a0 len0 cap0 z0) (w1 : IsRow .u16 w a1 len1 cap1 z1) :
    Calls Try.prog 7 #[.slice a0 len0 cap0, .slice a1 len1 cap1] w fun e w' => e = .returned (.bool true) ∧ Below w.heap.size w w' := by
  obtain ⟨hrow, hfit⟩ := w0.row
  generalize z0.take len0 = L at hrow hfit
  obtain ⟨hrow2, hfit2⟩ := w1.row
  generalize z1.take len1 = M at hrow2 hfit2
  have HOF := Lib.hid (of_any a0 len0 cap0 L 12 _ hrow (by omega))
  have HOG := Lib.hid (fun W (hW : Below w.heap.size w W) => of_any a1 len1 cap1 M 12 W ((hrow2.below hW).more hW.size) (by omega))
  have HFT := Lib.hid (hfit.take 12)
  have HGT := Lib.hid (hfit2.take 12)
  generalize L.take 12 = T at *
  generalize M.take 12 = T2 at *
  clear w0 w1 hrow hfit hrow2 hfit2
  go_enter Try.func7, Try.ntmps7
  go_wp2_with fail
  refine HOF.out.mono ?_
  rintro e w2 ⟨b, rfl, hts2, hge, hb2⟩
  have HEV := Lib.hid (made_any hts2 hge hb2 HFT.out)
  clear hts2 hb2 HOF hge
  go_wp2_with fail
  refine HEV.out.mono ?_
  rintro x w3 ⟨p, o, h, a, e, hchk, hh, ha, rfl, hb3⟩
  have HQ1 := Lib.hid (And.intro hchk (And.intro hh ha))
  have HB3 := Lib.hid hb3
  have HOF := Lib.hid (HOG.out w3 hb3)
  clear hb3 HEV HOG hchk hh ha
  go_wp2_with fail
  refine HOF.out.mono ?_
  rintro x w4 ⟨b2, rfl, hts2, hge, hb2⟩
  have HEV := Lib.hid (made_any hts2 (Nat.le_trans HB3.out.size hge) (Below.then HB3.out hb2 (Nat.le_refl _)) HGT.out)
  clear hts2 hb2 HOF hge HB3
  go_wp2_with fail
  refine HEV.out.mono ?_
  rintro x w5 ⟨p2, o2, h2, a2, e2, hchk, hh, ha, rfl, hb5⟩
  have HQ2 := Lib.hid (And.intro hchk (And.intro hh ha))
  have hb6 : Below w5.heap.size w5 ((w5.alloc (.cells #[.int .i64 p, .int .i64 o, .int .u64 h, .int .u64 a, .int .i64 e] 26)).alloc (.cells #[.int .i64 p2, .int .i64 o2, .int .u64 h2, .int .u64 a2, .int .i64 e2] 26)) := ((Below.refl _ _).alloc (Nat.le_refl _) _).alloc (by simp) _
  have HB6 := Lib.hid (Below.then hb5 hb6 (Nat.le_refl _))
  have hs6 : (w5.alloc (.cells #[.int .i64 p, .int .i64 o, .int .u64 h, .int .u64 a, .int .i64 e] 26)).heap.size = w5.heap.size + 1 := by simp
  have HX6 : Hid (EvB ((w5.alloc (.cells #[.int .i64 p, .int .i64 o, .int .u64 h, .int .u64 a, .int .i64 e] 26)).alloc (.cells #[.int .i64 p2, .int .i64 o2, .int .u64 h2, .int .u64 a2, .int .i64 e2] 26)) w5.heap.size p o h a e) := Lib.hid (EvB.new.go ((Below.refl _ _).alloc (Nat.le_refl _) _))
  have hy6 : EvB ((w5.alloc (.cells #[.int .i64 p, .int .i64 o, .int .u64 h, .int .u64 a, .int .i64 e] 26)).alloc (.cells #[.int .i64 p2, .int .i64 o2, .int .u64 h2, .int .u64 a2, .int .i64 e2] 26)) (w5.heap.size + 1) p2 o2 h2 a2 e2 := by
    have := EvB.new (w := (w5.alloc (.cells #[.int .i64 p, .int .i64 o, .int .u64 h, .int .u64 a, .int .i64 e] 26))) (p := p2) (o := o2) (h := h2) (a := a2) (e := e2)
    rwa [hs6] at this
  have HY6 := Lib.hid hy6
  have HE1 := Lib.hid (encode_any p o h a e ((w5.alloc (.cells #[.int .i64 p, .int .i64 o, .int .u64 h, .int .u64 a, .int .i64 e] 26)).alloc (.cells #[.int .i64 p2, .int .i64 o2, .int .u64 h2, .int .u64 a2, .int .i64 e2] 26)) HQ1.out.2.1 HQ1.out.2.2)
  have HE2 := Lib.hid (fun W => encode_any p2 o2 h2 a2 e2 W HQ2.out.2.1 HQ2.out.2.2)
  have heo : encO p o h a e = encN [p, o, h, a, e] := if_pos HQ1.out.1
  have heo2 : encO p2 o2 h2 a2 e2 = encN [p2, o2, h2, a2, e2] := if_pos HQ2.out.1
  unfold EncE at HE1 HE2
  rw [heo, HQ1.out.1] at HE1
  rw [heo2, HQ2.out.1] at HE2
  clear hb5 hb6 hs6 hy6 HEV hchk hh ha heo heo2
  obtain ⟨c0, c1, c2, c3, c4⟩ := HX6.out.cells
  go_wp2_with fail
  generalize ((w5.alloc (.cells #[.int .i64 p, .int .i64 o, .int .u64 h, .int .u64 a, .int .i64 e] 26)).alloc (.cells #[.int .i64 p2, .int .i64 o2, .int .u64 h2, .int .u64 a2, .int .i64 e2] 26)) = w6 at *
  refine HE1.out.mono ?_
  rintro x w7 ⟨v7, rfl, ho7, hb7⟩
  obtain ⟨A7, n7, c7, rfl, hr7⟩ := ho7.shape
  have HR7 := Lib.hid hr7
  have HB7 := Lib.hid (Below.then HB6.out hb7 (Nat.le_refl _))
  have HX7 := Lib.hid (HX6.out.go hb7)
  have HY7 := Lib.hid (HY6.out.go hb7)
  clear ho7 hr7 hb7 HE1 HB6 HX6 HY6 c0 c1 c2 c3 c4
  obtain ⟨c0, c1, c2, c3, c4⟩ := HY7.out.cells
  have HE1 := Lib.hid (HE2.out w7)
  clear HE2
  go_wp2_with fail
  refine HE1.out.mono ?_
  rintro x w8 ⟨v8, rfl, ho8, hb8⟩
  obtain ⟨A8, n8, c8, rfl, hr8⟩ := ho8.shape
  have HR8 := Lib.hid hr8
  have HS7 := Lib.hid (HR7.out.go hb8)
  have HB8 := Lib.hid (Below.then HB7.out hb8 (Nat.le_refl _))
  have HX8 := Lib.hid (HX7.out.go hb8)
  have HY8 := Lib.hid (HY7.out.go hb8)
  clear ho8 hr8 hb8 HE1 HB7 HX7 HY7 c0 c1 c2 c3 c4 HR7
  generalize w5.heap.size = t5 at *
  go_wp2_with fail
  have HT1 : Hid (∀ W, Below w8.heap.size w8 W → (convert 32 9 (.slice A7 n7 c7)).run Try.prog W = .ok (.string (strOfNums (encN [p, o, h, a, e]))) W) := Lib.hid (fun W hW => bts_run (HS7.out.below hW))
  have HT2 : Hid (∀ W, Below w8.heap.size w8 W → (convert 32 9 (.slice A8 n8 c8)).run Try.prog W = .ok (.string (strOfNums (encN [p2, o2, h2, a2, e2]))) W) := Lib.hid (fun W hW => bts_run (HR8.out.below hW))
  have HCX : Hid (∀ W, Below w8.heap.size w8 W → EvB W t5 p o h a e ∧ EvB W (t5 + 1) p2 o2 h2 a2 e2) := Lib.hid (fun W hW => ⟨HX8.out.go hW, HY8.out.go hW⟩)
  have HD0 : Hid (Below w8.heap.size w8 w8.drew) := Lib.hid (below_drewN (Below.refl _ w8) 1)
  have heqv := eq_ev p o h a e p2 o2 h2 a2 e2
  by_cases hsame : p = p2 ∧ o = o2 ∧ h = h2 ∧ a = a2 ∧ e = e2
  · have heqt : strOfNums (encN [p, o, h, a, e]) = strOfNums (encN [p2, o2, h2, a2, e2]) := by
      obtain ⟨rfl, rfl, rfl, rfl, rfl⟩ := hsame
      rfl
    rw [decide_eq_true hsame] at heqv
    rw [heqt] at HT1
    clear hsame heqt HR8 HS7 HX8 HY8 HQ1 HQ2
    generalize strOfNums (encN [p2, o2, h2, a2, e2]) = S2 at *
    refine wp_region_hand 21 (fun W => Below w8.heap.size w8 W) (by kernel_rfl) (by kernel_rfl) ?_
    rw [show Array.replicate 21 false = #[false, false, false, false, false, false, false, false, false, false, false, false, false, false, false, false, false, false, false, false, false] from rfl]
    have hHeld := HD0.out
    have HCL := Lib.hid (awake16_any w8.drew)
    refine held_one (i := 0) (by kernel_rfl) ?_
    refine held_callX (d := 27) rfl rfl (by rfl) rfl (by kernel_rfl) Try.func14 (by kernel_rfl) HCL.out ?_
    rintro x w9 ⟨rfl, hb9⟩
    have HD9 := Lib.hid (Below.then HD0.out hb9 (Nat.le_refl _))
    refine ⟨_, rfl, ?_⟩
    clear HCL hHeld
    have hHeld := HD9.out
    refine ⟨hHeld, ?_⟩
    simp only [Act.put, List.setIfInBounds_toArray, List.set_cons_zero, List.set_cons_succ]
    refine held_take (i := 1) (d := 28) (v := .bool true) rfl rfl (by kernel_rfl) (by kernel_rfl) (by kernel_rfl) (fun _ _ _ h => h) (by rfl) (fun W _ => run_move_is (.tmp 27) rfl rfl W) hHeld ?_
    simp only [Act.put, List.setIfInBounds_toArray, List.set_cons_zero, List.set_cons_succ]
    refine held_take (i := 2) (d := 29) (v := .int .i64 0) rfl rfl (by kernel_rfl) (by kernel_rfl) (by kernel_rfl) (fun _ _ _ h => h) (by rfl) (fun W _ => run_move_is (.tmp 8) rfl rfl W) hHeld ?_
    simp only [Act.put, List.setIfInBounds_toArray, List.set_cons_zero, List.set_cons_succ]
    refine held_take (i := 3) (d := 30) (v := .bool true) rfl rfl (by kernel_rfl) (by kernel_rfl) (by kernel_rfl) (fun _ _ _ h => h) (by rfl) (fun W _ => by go_simp) hHeld ?_
    simp only [Act.put, List.setIfInBounds_toArray, List.set_cons_zero, List.set_cons_succ]
    refine held_take (i := 4) (d := 31) (v := .bool true) rfl rfl (by kernel_rfl) (by kernel_rfl) (by kernel_rfl) (fun _ _ _ h => h) (by rfl) (fun W _ => by go_simp) hHeld ?_
    simp only [Act.put, List.setIfInBounds_toArray, List.set_cons_zero, List.set_cons_succ]
    refine held_take (i := 5) (d := 32) (v := .bool true) rfl rfl (by kernel_rfl) (by kernel_rfl) (by kernel_rfl) (fun _ _ _ h => h) (by rfl) (fun W _ => run_move_is (.tmp 31) rfl rfl W) hHeld ?_
    simp only [Act.put, List.setIfInBounds_toArray, List.set_cons_zero, List.set_cons_succ]
    refine held_take (i := 6) (d := 33) (v := .int .i64 0) rfl rfl (by kernel_rfl) (by kernel_rfl) (by kernel_rfl) (fun _ _ _ h => h) (by rfl) (fun W _ => run_move_is (.tmp 10) rfl rfl W) hHeld ?_
    simp only [Act.put, List.setIfInBounds_toArray, List.set_cons_zero, List.set_cons_succ]
    refine held_take (i := 7) (d := 34) (v := .bool true) rfl rfl (by kernel_rfl) (by kernel_rfl) (by kernel_rfl) (fun _ _ _ h => h) (by rfl) (fun W _ => by go_simp) hHeld ?_
    simp only [Act.put, List.setIfInBounds_toArray, List.set_cons_zero, List.set_cons_succ]
    refine held_take (i := 8) (d := 35) (v := .bool true) rfl rfl (by kernel_rfl) (by kernel_rfl) (by kernel_rfl) (fun _ _ _ h => h) (by rfl) (fun W _ => by go_simp) hHeld ?_
    simp only [Act.put, List.setIfInBounds_toArray, List.set_cons_zero, List.set_cons_succ]
    refine held_take (i := 9) (d := 36) (v := .bool true) rfl rfl (by kernel_rfl) (by kernel_rfl) (by kernel_rfl) (fun _ _ _ h => h) (by rfl) (fun W _ => run_move_is (.tmp 35) rfl rfl W) hHeld ?_
    simp only [Act.put, List.setIfInBounds_toArray, List.set_cons_zero, List.set_cons_succ]
    refine held_take (i := 10) (d := 37) (v := .slice A7 n7 c7) rfl rfl (by kernel_rfl) (by kernel_rfl) (by kernel_rfl) (fun _ _ _ h => h) (by rfl) (fun W _ => run_move_is (.tmp 7) rfl rfl W) hHeld ?_
    simp only [Act.put, List.setIfInBounds_toArray, List.set_cons_zero, List.set_cons_succ]
    refine held_take (i := 11) (d := 38) (v := .string S2) rfl rfl (by kernel_rfl) (by kernel_rfl) (by kernel_rfl) (fun _ _ _ h => h) (by rfl) (fun W hW => by have q := HT1.out W hW; go_simp) hHeld ?_
    simp only [Act.put, List.setIfInBounds_toArray, List.set_cons_zero, List.set_cons_succ]
    refine held_take (i := 12) (d := 39) (v := .slice A8 n8 c8) rfl rfl (by kernel_rfl) (by kernel_rfl) (by kernel_rfl) (fun _ _ _ h => h) (by rfl) (fun W _ => run_move_is (.tmp 9) rfl rfl W) hHeld ?_
    simp only [Act.put, List.setIfInBounds_toArray, List.set_cons_zero, List.set_cons_succ]
    refine held_take (i := 13) (d := 40) (v := .string S2) rfl rfl (by kernel_rfl) (by kernel_rfl) (by kernel_rfl) (fun _ _ _ h => h) (by rfl) (fun W hW => by have q := HT2.out W hW; go_simp) hHeld ?_
    simp only [Act.put, List.setIfInBounds_toArray, List.set_cons_zero, List.set_cons_succ]
    refine held_take (i := 14) (d := 41) (v := .bool true) rfl rfl (by kernel_rfl) (by kernel_rfl) (by kernel_rfl) (fun _ _ _ h => h) (by rfl) (fun W _ => by go_simp) hHeld ?_
    simp only [Act.put, List.setIfInBounds_toArray, List.set_cons_zero, List.set_cons_succ]
    refine held_take (i := 15) (d := 42) (v := .agg #[.int .i64 p, .int .i64 o, .int .u64 h, .int .u64 a, .int .i64 e]) rfl rfl (by kernel_rfl) (by kernel_rfl) (by kernel_rfl) (fun _ _ _ h => h) (by rfl) (fun W hW => by obtain ⟨q, _⟩ := HCX.out W hW; obtain ⟨q0, q1, q2, q3, q4⟩ := q.cells; go_simp) hHeld ?_
    simp only [Act.put, List.setIfInBounds_toArray, List.set_cons_zero, List.set_cons_succ]
    refine held_take (i := 16) (d := 43) (v := .agg #[.int .i64 p2, .int .i64 o2, .int .u64 h2, .int .u64 a2, .int .i64 e2]) rfl rfl (by kernel_rfl) (by kernel_rfl) (by kernel_rfl) (fun _ _ _ h => h) (by rfl) (fun W hW => by obtain ⟨_, q⟩ := HCX.out W hW; obtain ⟨q0, q1, q2, q3, q4⟩ := q.cells; go_simp) hHeld ?_
    simp only [Act.put, List.setIfInBounds_toArray, List.set_cons_zero, List.set_cons_succ]
    refine held_take (i := 17) (d := 44) (v := .bool true) rfl rfl (by kernel_rfl) (by kernel_rfl) (by kernel_rfl) (fun _ _ _ h => h) (by rfl) (fun W _ => by have q := heqv W; go_simp) hHeld ?_
    simp only [Act.put, List.setIfInBounds_toArray, List.set_cons_zero, List.set_cons_succ]
    refine held_take (i := 18) (d := 45) (v := .bool true) rfl rfl (by kernel_rfl) (by kernel_rfl) (by kernel_rfl) (fun _ _ _ h => h) (by rfl) (fun W _ => by go_simp) hHeld ?_
    simp only [Act.put, List.setIfInBounds_toArray, List.set_cons_zero, List.set_cons_succ]
    refine held_take (i := 19) (d := 46) (v := .bool true) rfl rfl (by kernel_rfl) (by kernel_rfl) (by kernel_rfl) (fun _ _ _ h => h) (by rfl) (fun W _ => by go_simp) hHeld ?_
    simp only [Act.put, List.setIfInBounds_toArray, List.set_cons_zero, List.set_cons_succ]
    refine held_take (i := 20) (d := 4) (v := .bool true) rfl rfl (by kernel_rfl) (by kernel_rfl) (by kernel_rfl) (fun _ _ _ h => h) (by rfl) (fun W _ => by go_simp) hHeld ?_
    simp only [Act.put, List.setIfInBounds_toArray, List.set_cons_zero, List.set_cons_succ]
    refine wpAnyH_done (by kernel_rfl) ?_ _
    clear hHeld
    have HB9 := Lib.hid (Below.then HB8.out HD9.out (Nat.le_refl _))
    clear HD9 HD0 HCX HT1 HT2 heqv
    go_wp2
    go_ret
    exact ⟨rfl, HB9.out⟩
  · have heqt : ((strOfNums (encN [p, o, h, a, e])).toList == (strOfNums (encN [p2, o2, h2, a2, e2])).toList) = false := by
      rw [beq_eq_false_iff_ne]
      intro h'
      exact hsame (enc_apart HQ1.out.1 HQ1.out.2.1 HQ1.out.2.2 HQ2.out.1 HQ2.out.2.1 HQ2.out.2.2 (str_inj encN_small encN_small (str_list h')))
    rw [decide_eq_false hsame] at heqv
    clear hsame HR8 HS7 HX8 HY8 HQ1 HQ2
    generalize strOfNums (encN [p2, o2, h2, a2, e2]) = S2 at *
    generalize strOfNums (encN [p, o, h, a, e]) = S1 at *
    refine wp_region_hand 21 (fun W => Below w8.heap.size w8 W) (by kernel_rfl) (by kernel_rfl) ?_
    rw [show Array.replicate 21 false = #[false, false, false, false, false, false, false, false, false, false, false, false, false, false, false, false, false, false, false, false, false] from rfl]
    have hHeld := HD0.out
    have HCL := Lib.hid (awake16_any w8.drew)
    refine held_one (i := 0) (by kernel_rfl) ?_
    refine held_callX (d := 27) rfl rfl (by rfl) rfl (by kernel_rfl) Try.func14 (by kernel_rfl) HCL.out ?_
    rintro x w9 ⟨rfl, hb9⟩
    have HD9 := Lib.hid (Below.then HD0.out hb9 (Nat.le_refl _))
    refine ⟨_, rfl, ?_⟩
    clear HCL hHeld
    have hHeld := HD9.out
    refine ⟨hHeld, ?_⟩
    simp only [Act.put, List.setIfInBounds_toArray, List.set_cons_zero, List.set_cons_succ]
    refine held_take (i := 1) (d := 28) (v := .bool true) rfl rfl (by kernel_rfl) (by kernel_rfl) (by kernel_rfl) (fun _ _ _ h => h) (by rfl) (fun W _ => run_move_is (.tmp 27) rfl rfl W) hHeld ?_
    simp only [Act.put, List.setIfInBounds_toArray, List.set_cons_zero, List.set_cons_succ]
    refine held_take (i := 2) (d := 29) (v := .int .i64 0) rfl rfl (by kernel_rfl) (by kernel_rfl) (by kernel_rfl) (fun _ _ _ h => h) (by rfl) (fun W _ => run_move_is (.tmp 8) rfl rfl W) hHeld ?_
    simp only [Act.put, List.setIfInBounds_toArray, List.set_cons_zero, List.set_cons_succ]
    refine held_take (i := 3) (d := 30) (v := .bool true) rfl rfl (by kernel_rfl) (by kernel_rfl) (by kernel_rfl) (fun _ _ _ h => h) (by rfl) (fun W _ => by go_simp) hHeld ?_
    simp only [Act.put, List.setIfInBounds_toArray, List.set_cons_zero, List.set_cons_succ]
    refine held_take (i := 4) (d := 31) (v := .bool true) rfl rfl (by kernel_rfl) (by kernel_rfl) (by kernel_rfl) (fun _ _ _ h => h) (by rfl) (fun W _ => by go_simp) hHeld ?_
    simp only [Act.put, List.setIfInBounds_toArray, List.set_cons_zero, List.set_cons_succ]
    refine held_take (i := 5) (d := 32) (v := .bool true) rfl rfl (by kernel_rfl) (by kernel_rfl) (by kernel_rfl) (fun _ _ _ h => h) (by rfl) (fun W _ => run_move_is (.tmp 31) rfl rfl W) hHeld ?_
    simp only [Act.put, List.setIfInBounds_toArray, List.set_cons_zero, List.set_cons_succ]
    refine held_take (i := 6) (d := 33) (v := .int .i64 0) rfl rfl (by kernel_rfl) (by kernel_rfl) (by kernel_rfl) (fun _ _ _ h => h) (by rfl) (fun W _ => run_move_is (.tmp 10) rfl rfl W) hHeld ?_
    simp only [Act.put, List.setIfInBounds_toArray, List.set_cons_zero, List.set_cons_succ]
    refine held_take (i := 7) (d := 34) (v := .bool true) rfl rfl (by kernel_rfl) (by kernel_rfl) (by kernel_rfl) (fun _ _ _ h => h) (by rfl) (fun W _ => by go_simp) hHeld ?_
    simp only [Act.put, List.setIfInBounds_toArray, List.set_cons_zero, List.set_cons_succ]
    refine held_take (i := 8) (d := 35) (v := .bool true) rfl rfl (by kernel_rfl) (by kernel_rfl) (by kernel_rfl) (fun _ _ _ h => h) (by rfl) (fun W _ => by go_simp) hHeld ?_
    simp only [Act.put, List.setIfInBounds_toArray, List.set_cons_zero, List.set_cons_succ]
    refine held_take (i := 9) (d := 36) (v := .bool true) rfl rfl (by kernel_rfl) (by kernel_rfl) (by kernel_rfl) (fun _ _ _ h => h) (by rfl) (fun W _ => run_move_is (.tmp 35) rfl rfl W) hHeld ?_
    simp only [Act.put, List.setIfInBounds_toArray, List.set_cons_zero, List.set_cons_succ]
    refine held_take (i := 10) (d := 37) (v := .slice A7 n7 c7) rfl rfl (by kernel_rfl) (by kernel_rfl) (by kernel_rfl) (fun _ _ _ h => h) (by rfl) (fun W _ => run_move_is (.tmp 7) rfl rfl W) hHeld ?_
    simp only [Act.put, List.setIfInBounds_toArray, List.set_cons_zero, List.set_cons_succ]
    refine held_take (i := 11) (d := 38) (v := .string S1) rfl rfl (by kernel_rfl) (by kernel_rfl) (by kernel_rfl) (fun _ _ _ h => h) (by rfl) (fun W hW => by have q := HT1.out W hW; go_simp) hHeld ?_
    simp only [Act.put, List.setIfInBounds_toArray, List.set_cons_zero, List.set_cons_succ]
    refine held_take (i := 12) (d := 39) (v := .slice A8 n8 c8) rfl rfl (by kernel_rfl) (by kernel_rfl) (by kernel_rfl) (fun _ _ _ h => h) (by rfl) (fun W _ => run_move_is (.tmp 9) rfl rfl W) hHeld ?_
    simp only [Act.put, List.setIfInBounds_toArray, List.set_cons_zero, List.set_cons_succ]
    refine held_take (i := 13) (d := 40) (v := .string S2) rfl rfl (by kernel_rfl) (by kernel_rfl) (by kernel_rfl) (fun _ _ _ h => h) (by rfl) (fun W hW => by have q := HT2.out W hW; go_simp) hHeld ?_
    simp only [Act.put, List.setIfInBounds_toArray, List.set_cons_zero, List.set_cons_succ]
    refine held_take (i := 14) (d := 41) (v := .bool false) rfl rfl (by kernel_rfl) (by kernel_rfl) (by kernel_rfl) (fun _ _ _ h => h) (by rfl) (fun W _ => by go_simp) hHeld ?_
    simp only [Act.put, List.setIfInBounds_toArray, List.set_cons_zero, List.set_cons_succ]
    refine held_take (i := 15) (d := 42) (v := .agg #[.int .i64 p, .int .i64 o, .int .u64 h, .int .u64 a, .int .i64 e]) rfl rfl (by kernel_rfl) (by kernel_rfl) (by kernel_rfl) (fun _ _ _ h => h) (by rfl) (fun W hW => by obtain ⟨q, _⟩ := HCX.out W hW; obtain ⟨q0, q1, q2, q3, q4⟩ := q.cells; go_simp) hHeld ?_
    simp only [Act.put, List.setIfInBounds_toArray, List.set_cons_zero, List.set_cons_succ]
    refine held_take (i := 16) (d := 43) (v := .agg #[.int .i64 p2, .int .i64 o2, .int .u64 h2, .int .u64 a2, .int .i64 e2]) rfl rfl (by kernel_rfl) (by kernel_rfl) (by kernel_rfl) (fun _ _ _ h => h) (by rfl) (fun W hW => by obtain ⟨_, q⟩ := HCX.out W hW; obtain ⟨q0, q1, q2, q3, q4⟩ := q.cells; go_simp) hHeld ?_
    simp only [Act.put, List.setIfInBounds_toArray, List.set_cons_zero, List.set_cons_succ]
    refine held_take (i := 17) (d := 44) (v := .bool false) rfl rfl (by kernel_rfl) (by kernel_rfl) (by kernel_rfl) (fun _ _ _ h => h) (by rfl) (fun W _ => by have q := heqv W; go_simp) hHeld ?_
    simp only [Act.put, List.setIfInBounds_toArray, List.set_cons_zero, List.set_cons_succ]
    refine held_take (i := 18) (d := 45) (v := .bool true) rfl rfl (by kernel_rfl) (by kernel_rfl) (by kernel_rfl) (fun _ _ _ h => h) (by rfl) (fun W _ => by go_simp) hHeld ?_
    simp only [Act.put, List.setIfInBounds_toArray, List.set_cons_zero, List.set_cons_succ]
    refine held_take (i := 19) (d := 46) (v := .bool true) rfl rfl (by kernel_rfl) (by kernel_rfl) (by kernel_rfl) (fun _ _ _ h => h) (by rfl) (fun W _ => by go_simp) hHeld ?_
    simp only [Act.put, List.setIfInBounds_toArray, List.set_cons_zero, List.set_cons_succ]
    refine held_take (i := 20) (d := 4) (v := .bool true) rfl rfl (by kernel_rfl) (by kernel_rfl) (by kernel_rfl) (fun _ _ _ h => h) (by rfl) (fun W _ => by go_simp) hHeld ?_
    simp only [Act.put, List.setIfInBounds_toArray, List.set_cons_zero, List.set_cons_succ]
    refine wpAnyH_done (by kernel_rfl) ?_ _
    clear hHeld
    have HB9 := Lib.hid (Below.then HB8.out HD9.out (Nat.le_refl _))
    clear HD9 HD0 HCX HT1 HT2 heqv
    go_wp2
    go_ret
    exact ⟨rfl, HB9.out⟩
end Go.Proofs.Ytfhcpgcjahjnmaa
