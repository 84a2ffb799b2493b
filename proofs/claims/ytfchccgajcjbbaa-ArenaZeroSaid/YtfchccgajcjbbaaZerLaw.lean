/-
  The law ArenaZero as a walk: it returns true and changes nothing that was there. No conditions.
-/
import Derived.Test.YtfchccgajcjbbaaAlk
import Derived.Test.YtfchccgajcjbbaaAtl
import Derived.Test.YtfchccgajcjbbaaSth
namespace Go.Proofs.Ytfchccgajcjbbaa
open Go.ChangeShapes Go.WideShapes Go.ChangeAt Go.RowKit
set_option maxHeartbeats 8000000
set_option maxRecDepth 100000

theorem gd_fin {n : Int} {F A : List (Int × Int)} (h : Gd n F A) {x : Int × Int} (hx : x ∈ F) : 0 ≤ x.1 ∧ 0 < x.2 ∧ x.1 + x.2 ≤ n := by
  obtain ⟨h1, h2, h3, _⟩ := va_pr h.va x hx
  have h4 := (h.fm (x.1 + x.2 - 1)).1 ⟨x, hx, by omega, by omega⟩
  exact ⟨h2, h3, by omega⟩
theorem zero_sub {bs : List Int} {o m : Nat} (h : o + m ≤ bs.length) (hz : ∀ i, o ≤ i → i < o + m → bs.getD i 0 = 0) : (bs.drop o).take m = List.replicate m 0 := by
  refine List.ext_getElem? fun j => ?_
  by_cases hj : j < m
  · have h1 := hz (o + j) (by omega) (by omega)
    have e1 : o + j < bs.length := by omega
    simp only [List.getD, List.getElem?_eq_getElem e1, Option.getD_some] at h1
    simp [hj, List.getElem?_drop, List.getElem?_eq_getElem e1, h1]
  · simp [List.getElem?_take, hj]
theorem arenaZero_walk (r : Int) (At : Option Addr) (m ct : Nat) (k : Int) (w : World) (hr : (Lit.int .u8 r).wf = true) (ht : Hex w w.heap.size At m ct) (hk : (Lit.int .u8 k).wf = true) :
    Calls Try.prog 7 #[.int .u8 r, .slice At m ct, .int .u8 k] w fun e w' => e = .returned (.bool true) ∧ Below w.heap.size w w' := by
  obtain ⟨k0, k1⟩ := byte_bd hk
  have H := Lib.hid (built_any r At m ct w (byte_bd hr) ht)
  clear hr ht hk
  go_enter Try.func7, Try.ntmps7
  go_wp2_with fail
  refine H.out.mono ?_
  rintro e w1 ⟨c, a, p, g, q, g2, F, A, U, bs, rfl, hs, _, hu, hb, hc⟩
  have HS1 := Lib.hid hs
  have HB1 := Lib.hid hb
  have HC := Lib.hid hc
  have hAU := hs.len
  have hF : F.length ≤ 1000000 := by have := gd_flen hs.gd; omega
  have hsm := hs.ar.small
  clear H hs hb hc
  go_wp2_with fail
  refine (bytes_any c a p g F A bs w1 HS1.out.ar).mono ?_
  rintro e w2 ⟨vb, rfl, ho, hb⟩
  obtain ⟨A2, n2, c2, rfl, hr2⟩ := ho.shape
  have hn2 : n2 = bs.length := by have := hr2.len; rw [iv_len] at this; exact this.symm
  subst hn2
  have HR2 := Lib.hid hr2
  have hcap2 := hr2.cap
  have hmax2 := hr2.small
  unfold maxLen at hmax2
  have HS2 := Lib.hid (HS1.out.go hb)
  have HB2 := Lib.hid (Below.then HB1.out hb (Nat.le_refl _))
  clear ho hb hr2 HS1
  go_wp2_with fail
  refine (freeListA_any c a p g F A bs w2 HS2.out.ar hF).mono ?_
  rintro e w3 ⟨vf, rfl, ho, hb⟩
  obtain ⟨A3, n3, c3, rfl, hx3⟩ := ho.shape
  have HX3 := Lib.hid hx3
  have hcap3 := hx3.cap
  have hmax3 := hx3.small
  have hn3 : n3 ≤ 1000000 := by have := hx3.len; omega
  unfold maxLen at hmax3
  have HR3 := Lib.hid (HR2.out.go hb)
  have HS3 := Lib.hid (HS2.out.go hb)
  have HB3 := Lib.hid (Below.then HB2.out hb (Nat.le_refl _))
  clear ho hb hx3 HR2 HS2 HB2
  go_wp2
  go_loopw [32] (fun iv wr => ∃ (i : Nat), i ≤ n3 ∧ iv = .int .i64 i ∧ Hid (Below w3.heap.size w3 wr)) (fun iv _ => n3 - (intOf iv).toNat)
  case atStart => exact ⟨0, by omega, rfl, Lib.hid (Below.refl _ _)⟩
  case round =>
    obtain ⟨i, hi, rfl, hh⟩ := hrel
    by_cases hlt : i < n3
    · have hlt' : (i : Int) < (n3 : Int) := by omega
      obtain ⟨b, o, x, y, hx, rfl, hb, hc1, hc2, _, _, _, _⟩ := (HX3.out.below hh.out).at_ hlt
      have hmem := List.mem_of_getElem? hx
      obtain ⟨x0, y0, xy⟩ := gd_fin HS3.out.gd hmem
      simp only at x0 y0 xy
      obtain ⟨X, rfl⟩ := Int.eq_ofNat_of_zero_le x0
      obtain ⟨Y, rfl⟩ := Int.eq_ofNat_of_zero_le (Int.le_of_lt y0)
      have HZ : Hid (∀ k : Nat, k < Y → bs.getD (X + k) 0 = 0) := Lib.hid (fun k hk => HS3.out.zf (X + k) ⟨_, hmem, by simp only; omega, by simp only; omega⟩)
      have d0 : decide ((X : Int) < 0) = false := decide_eq_false (by omega)
      have d1 : decide ((Y : Int) < 0) = false := decide_eq_false (by omega)
      have d2 : decide ((bs.length : Int) < (X : Int) + (Y : Int)) = false := decide_eq_false (by omega)
      have hwr := hh.out.size
      have hb4 := hh.out.alloc hwr (.cells #[.int .i64 X, .int .i64 Y] 31)
      have HB4 := Lib.hid hb4
      have HE4 := Lib.hid (Box.new (w := wr) (x := (X : Int)) (y := (Y : Int)))
      have HR4 := Lib.hid (HR3.out.go hb4)
      clear hx hmem hh hb4
      go_wp2
      generalize wr.alloc (.cells #[.int .i64 X, .int .i64 Y] 31) = w4 at *
      have e0 := HE4.out.cell0
      have e1 := HE4.out.cell1
      go_wp2
      go_loop [13] (fun jv => ∃ (k : Nat), k ≤ Y ∧ jv = .int .i64 ((X : Int) + k)) (fun jv => (X + Y) - (intOf jv).toNat)
      case atStart => exact ⟨0, by omega, by go_num⟩
      case round =>
        obtain ⟨k, hk, rfl⟩ := hrel
        by_cases hkl : k < Y
        · have hkl' : (X : Int) + (k : Int) < (X : Int) + (Y : Int) := by omega
          obtain ⟨b', o', rfl, hbw, hcell⟩ := HR4.out.int (j := X + k) (by omega)
          rw [HZ.out k hkl] at hcell
          have e2 : ((X : Int) + (k : Int)).toNat = X + k := by omega
          have i0 : 0 ≤ (X : Int) + (k : Int) := by omega
          have i1 : (X : Int) + (k : Int) < bs.length := by omega
          go_wp2
          go_round
          case rel => exact ⟨k + 1, by omega, by go_num⟩
          case measure => simp [intOf]; omega
        · obtain rfl : k = Y := by omega
          go_wp2
          go_roundw
          case rel => exact ⟨i + 1, by omega, by go_num, HB4⟩
          case measure => simp [intOf]; omega
    · have hlt' : ¬ (i : Int) < (n3 : Int) := by omega
      have HS4 := Lib.hid (HS3.out.go hh.out)
      have HB4 := Lib.hid (Below.then HB3.out hh.out (by have := HB3.out.size; omega))
      have hz1 : 1 ≤ 1 + k % 40 := by omega
      have hz2 : 1 + k % 40 ≤ 300 := by omega
      clear hh HS3 HB3 HR3 HX3
      go_wp2_with fail
      generalize 1 + k % 40 = z at *
      rcases ch_two (F := F) (er_small hz1 hz2) with ⟨_, hch⟩ | ⟨y, hbest, hch⟩
      · refine (allocA_any c a p g F A U bs z wr HS4.out.ar HS4.out.gd (by omega) HS4.out.pm).mono ?_
        rw [hch]
        rintro e w5 ⟨F', A', ⟨rfl, c5, ha, hks, hc5, hn5⟩, _⟩
        simp only [rV]
        have HB5 : Hid (Below w.heap.size w w5) := Lib.hid (Below.trans HB4.out (hks.below (fun x hx => by rw [HC.out x hx]; exact sp_not (by omega) (by omega)) HB4.out.size))
        have HB6 := Lib.hid (HB5.out.alloc HB5.out.size (.cells #[.int .i64 0, .int .i64 0] 31))
        clear ha hks hc5 hn5 hch
        go_wp2_with fail
        generalize w5.alloc (.cells #[.int .i64 0, .int .i64 0] 31) = w6 at *
        refine (awake_any w6).mono ?_
        rintro e w7 ⟨rfl, hb7⟩
        have HB7 := Lib.hid (Below.then HB6.out hb7 (Nat.le_refl _))
        clear hb7
        go_wp2
        go_ret
        exact ⟨rfl, HB7.out⟩
      · have hhas := (gd_alloc HS4.out.gd hbest (sz_ge (er_small hz1 hz2)) (lb_ex HS4.out.gd y.1).choose_spec).2.1
        have hpr := (gd_alloc HS4.out.gd hbest (sz_ge (er_small hz1 hz2)) (lb_ex HS4.out.gd y.1).choose_spec).2.2
        generalize szR z = s at *
        generalize y.1 = x at *
        obtain ⟨p1, p2, _⟩ := hpr
        obtain ⟨f, hf1, hf2, hf3⟩ := hhas
        simp only at hf2 hf3
        obtain ⟨_, _, q3⟩ := gd_fin HS4.out.gd hf1
        obtain ⟨X, rfl⟩ := Int.eq_ofNat_of_zero_le p1
        obtain ⟨S, rfl⟩ := Int.eq_ofNat_of_zero_le (Int.le_of_lt p2)
        have HZS : Hid ((bs.drop X).take S = List.replicate S 0) := Lib.hid (zero_sub (by omega) (fun i h1 h2 => HS4.out.zf i ⟨f, hf1, by omega, by omega⟩))
        have hXS : X + S ≤ bs.length := by omega
        refine (allocA_any c a p g F A U bs z wr HS4.out.ar HS4.out.gd (by omega) HS4.out.pm).mono ?_
        rw [hch]
        rintro e w5 ⟨F', A', ⟨rfl, c5, ha, hks, hc5, hn5⟩, hg5, hp5, _⟩
        simp only [rV]
        have hmem : ((X : Int), (S : Int)) ∈ A' := hp5.mem_iff.2 (by unfold alU; rw [if_pos rfl]; simp)
        have hA5 : A'.length ≤ 900 := by
          have h1 := hp5.length_eq
          have h2 := alU_len (U := U) (r := (((X : Int), (S : Int)), 0))
          omega
        have HB5 : Hid (Below w.heap.size w w5) := Lib.hid (Below.trans HB4.out (hks.below (fun x hx => by rw [HC.out x hx]; exact sp_not (by omega) (by omega)) HB4.out.size))
        have hb6 : Below w5.heap.size w5 (w5.alloc (.cells #[.int .i64 X, .int .i64 S] 31)) := (Below.refl _ _).alloc (Nat.le_refl _) _
        have HB6 := Lib.hid (Below.then HB5.out hb6 (Nat.le_refl _))
        have HE6 := Lib.hid (Box.new (w := w5) (x := (X : Int)) (y := (S : Int)))
        have HA6 := Lib.hid (ha.go hb6)
        have HG5 := Lib.hid hg5
        have e0 := HE6.out.cell0
        have e1 := HE6.out.cell1
        have HBC : Hid (bytC A' X S 0 S = 0) := Lib.hid (by
          unfold bytC
          rw [if_pos hmem, if_neg (by omega), if_pos (by simp [wi])])
        have HRL : Hid (rdL A' bs X S 0 S = List.replicate S 0) := Lib.hid (by
          unfold rdL
          rw [HBC.out, if_pos rfl, show ((X : Int) + 0).toNat = X by omega, show ((S : Int)).toNat = S by omega, HZS.out])
        clear ha hks hc5 hn5 hch hb6 hg5 hp5 hf1 hbest hmem HZS
        go_wp2_with fail
        generalize w5.alloc (.cells #[.int .i64 X, .int .i64 S] 31) = w6 at *
        refine (read_any c5 a p g F' A' bs X S 0 S w6 HA6.out HG5.out hA5 (by omega)).mono ?_
        rw [HBC.out, HRL.out]
        rintro e w7 ⟨vr, rfl, ho, hb7⟩
        obtain ⟨A7, n7, c7, rfl, hr7⟩ := ho.shape
        obtain ⟨T, hT⟩ : ∃ T, strOfNums (List.replicate S 0) = T := ⟨_, rfl⟩
        have HT := Lib.hid hT
        have HR7 := Lib.hid hr7
        have HE7 := Lib.hid (HE6.out.go hb7)
        have HB7 := Lib.hid (Below.then HB6.out hb7 (Nat.le_refl _))
        have hbd : Below w7.heap.size w7 w7.drew := below_drewN (Below.refl _ _) 1
        have HR7' := Lib.hid (HR7.out.go hbd)
        have HE7' := Lib.hid (HE7.out.go hbd)
        have HB7' := Lib.hid (Below.then HB7.out hbd (Nat.le_refl _))
        obtain ⟨i0, hi0, hz0, hzz1, hzz2⟩ := infoU8
        have HI0 := Lib.hid hi0
        have HZ0 := Lib.hid hz0
        clear ho hb7 hr7 hT hbd e0 e1 hi0 hz0
        go_wp2
        refine wp_region_first (args := #[]) (v := .bool true) (by kernel_rfl) (by kernel_rfl) Try.func11 (by kernel_rfl) rfl (by kernel_rfl) ?_
        refine (awake_any (w7.drewN 1)).mono ?_
        rintro e w8 ⟨rfl, hb8⟩
        have HR8 := Lib.hid (HR7'.out.go hb8)
        have HE8 := Lib.hid (HE7'.out.go hb8)
        have HB8 := Lib.hid (Below.then HB7'.out hb8 (Nat.le_refl _))
        obtain ⟨w9, hrun, hown, hgr⟩ := run_make_full (P := Try.prog) w8 w8.heap.size 40 5 i0 _ 1 Try.underlying40 HI0.out HZ0.out hzz1 .i64 .i64 S (by rw [hzz2]; omega) (by unfold maxLen; omega) (Nat.le_refl _)
        have hb9 : Below w8.heap.size w8 w9 := (Below.refl _ _).grown hgr (Nat.le_refl _) (by simp)
        have HBY := Lib.hid (byt_made hown)
        have ht3 := (HBY.out.row (by rw [List.length_replicate]; omega)).text HT.out
        rw [List.length_replicate] at ht3
        have HB9 := Lib.hid (Below.then HB8.out hb9 (Nat.le_refl _))
        obtain ⟨C, hC⟩ : ∃ C, C = C3 (fun x => x = w8) (fun x => x = w9) (fun x => x = w9) := ⟨_, rfl⟩
        have hall : ∀ m : InSome C, m.val = w8 ∨ m.val = w9 := fun m => by
          obtain ⟨x, s', hs'⟩ := m
          rw [hC] at hs'
          exact c3_all (D := fun x => x = w8 ∨ x = w9) (fun _ h => .inl h) (fun _ h => .inr h) (fun _ h => .inr h) s' x hs'
        have t1 : ∀ m : InSome C, (convert 40 9 (.slice A7 n7 c7)).run Try.prog m.val = .ok (.string T) m.val := fun m => by
          rcases hall m with h | h <;> rw [h]
          · exact HR8.out.text HT.out
          · exact (HR8.out.go hb9).text HT.out
        have e0 : ∀ m : InSome C, m.val.cell? ⟨w5.heap.size, 1, none⟩ = some (.int .i64 S) := fun m => by
          rcases hall m with h | h <;> rw [h]
          · exact HE8.out.cell1
          · exact (HE8.out.go hb9).cell1
        have hC0 : C 0 w8 := by rw [hC]; rfl
        have hne : Nonempty (InSome C) := ⟨⟨w8, 0, hC0⟩⟩
        have HRUN := Lib.hid hrun
        have HT3 := Lib.hid ht3
        have HC' : Hid ((∀ x, C 0 x → x = w8) ∧ C 1 w9 ∧ (∀ x, C 1 x → x = w9) ∧ C 2 w9 ∧ ∀ x, C 2 x → x = w9) := Lib.hid (by rw [hC]; exact ⟨fun _ h => h, rfl, fun _ h => h, rfl, fun _ h => h⟩)
        clear hC hall hb8 hown hgr hb9 hrun ht3
        refine ⟨rfl, [10, 11], C, by kernel_rfl, hC0, ?_⟩
        simp only [Act.put, List.setIfInBounds_toArray, List.set_cons_succ, List.set_cons_zero]
        refine lexT_seg2 9 (by kernel_rfl) ?_
        simp only [List.take_succ_cons, List.take_zero, List.drop_succ_cons, List.drop_zero]
        repeat (go_big_quiet_step (fail))
        refine wpQuiet_nil ?_
        refine lexT2_make (.slice (some ⟨w8.heap.size, 0, none⟩) S S) (by kernel_rfl) (by kernel_rfl) (fun x hx => ⟨w9, by rw [HC'.out.1 x hx]; exact run_make rfl rfl rfl HRUN.out, HC'.out.2.1⟩) ?_
        simp only [Act.put, List.setIfInBounds_toArray, List.set_cons_succ, List.set_cons_zero]
        refine lexT2_make (.string T) (by kernel_rfl) (by kernel_rfl) (fun x hx => ⟨w9, by rw [HC'.out.2.2.1 x hx]; exact run_conv rfl rfl HT3.out, HC'.out.2.2.2.1⟩) ?_
        simp only [Act.put, List.setIfInBounds_toArray, List.set_cons_succ, List.set_cons_zero]
        refine lexT_seg2 3 (by kernel_rfl) ?_
        simp only [List.take_succ_cons, List.take_zero, List.drop_succ_cons, List.drop_zero]
        repeat (go_big_quiet_step (fail))
        refine wpQuiet_nil ?_
        refine lexT2_nil ?_
        intro w10 hw10
        obtain rfl := HC'.out.2.2.2.2 w10 hw10
        clear hw10 t1 e0 hne
        go_wp2
        go_ret
        exact ⟨rfl, HB9.out⟩
end Go.Proofs.Ytfchccgajcjbbaa
