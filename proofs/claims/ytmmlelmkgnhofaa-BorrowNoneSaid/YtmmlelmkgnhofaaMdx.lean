/-
  Contracts of the model's Access, EndObject and EndHolder. Conditions: at most a hundred thousand borrows.
-/
import Derived.Test.YtmmlelmkgnhofaaMdw
namespace Go.Proofs.Ytmmlelmkgnhofaa
open Go.ChangeShapes Go.WideShapes Go.ChangeAt Go.RowKit
set_option linter.unusedVariables false
set_option linter.unusedSimpArgs false
set_option maxHeartbeats 4000000
set_option maxRecDepth 100000

section
variable {w w' w1 w2 : World} {c c' : Nat → Nat} {j k p N : Nat} {L L' : List Bo} {o h m a pl : Int} {b z : Bo}
theorem accR_bad (own : Bool) (ha : ¬ (1 ≤ a ∧ a ≤ 4)) : Calls Try.prog 15 #[.pointer (some ⟨p, 0, none⟩), .int .i64 o, .int .i64 pl, .bool own, .int .i64 a] w fun e w' => e = .returned (.int .i64 1) ∧ Below w.heap.size w w' := by
  by_cases h1 : a < 1
  · have hd : decide (a < 1) = true := decide_eq_true h1
    clear ha h1
    go_enter Try.func15, Try.ntmps15
    go_wp2
    go_ret
    exact ⟨rfl, Below.refl _ _⟩
  · have hd : decide (a < 1) = false := decide_eq_false h1
    have hd2 : decide (4 < a) = true := decide_eq_true (by omega)
    clear ha h1
    go_enter Try.func15, Try.ntmps15
    go_wp2
    go_ret
    exact ⟨rfl, Below.refl _ _⟩
theorem accR_own (H : Mlr w p L) (hW : Wl N L) (hN : N ≤ 100000) (ha : 1 ≤ a ∧ a ≤ 4) : Calls Try.prog 15 #[.pointer (some ⟨p, 0, none⟩), .int .i64 o, .int .i64 pl, .bool true, .int .i64 a] w fun e w' => e = .returned (.int .i64 (ownE o a L)) ∧ Below w.heap.size w w' := by
  have hlL := hW.len
  have HHO := Lib.hid (holdsR_any (o := o) (h := pl) H (by omega))
  have HOF : Hid (∀ W, Below w.heap.size w W → Calls Try.prog 30 #[.pointer (some ⟨p, 0, none⟩), .int .i64 o] W (MkB W (ofL o L))) := Lib.hid (fun W hb => ofR_any (H.go hb) (by omega))
  have HMD := Lib.hid (hW.md_or (o := o))
  have HNL : Hid (md o L = 0 → (ofL o L).length = 0) := Lib.hid (fun e => by rw [md_none e hW.mo]; rfl)
  have HNZ : Hid (md o L ≠ 0 → 0 < (ofL o L).length) := Lib.hid (fun e => md_ne hW e)
  unfold HoE boA at HHO
  unfold MkB at HOF
  obtain ⟨v0, hv0⟩ : ∃ v, boV (hasL o pl L) = v := ⟨_, rfl⟩
  rw [hv0] at HHO
  obtain ⟨v1, v2, v3, v4⟩ := v0
  simp only at HHO
  generalize (hasL o pl L).isSome = hs at *
  have HE : Hid (ownE o a L = if md o L = 2 ∨ (md o L = 1 ∧ (a = 2 ∨ a = 3)) then 14 else 0) := Lib.hid rfl
  generalize ownE o a L = y at *
  clear H hW hv0
  by_cases h0 : md o L = 0
  · have HL0 := Lib.hid (HNL.out h0)
    obtain rfl : y = 0 := by have := HE.out; rw [if_neg (by omega)] at this; exact this
    clear HE HMD HNL HNZ h0
    obtain rfl | rfl | rfl | rfl : a = 1 ∨ a = 2 ∨ a = 3 ∨ a = 4 := by omega
    all_goals
      clear ha
      go_enter Try.func15, Try.ntmps15
      go_wp2_with fail
      refine HHO.out.mono ?_
      rintro e w2 ⟨rfl, hb2⟩
      have HB3 := Lib.hid (hb2.alloc hb2.size (.cells #[.int .i64 v1, .int .i64 v2, .int .i64 v3, .int .i64 v4] 47))
      clear hb2 HHO
      go_wp2_with fail
      refine (HOF.out _ HB3.out).mono ?_
      rintro e w4 ⟨v, rfl, ho, hb⟩
      obtain ⟨A, n, cap, rfl, hk⟩ := ho.shape
      obtain rfl : n = 0 := by have := hk.len; have := HL0.out; omega
      have HB4 := Lib.hid (Below.then HB3.out hb (Nat.le_refl _))
      clear ho hb hk HOF HB3
      go_wp2
      go_ret
      exact ⟨rfl, HB4.out⟩
  · have HL0 := Lib.hid (HNZ.out h0)
    by_cases h2 : md o L = 2
    · have H2 := Lib.hid h2
      obtain rfl : y = 14 := by have := HE.out; rw [if_pos (by omega)] at this; exact this
      clear HE HMD HNL HNZ h0 h2
      obtain rfl | rfl | rfl | rfl : a = 1 ∨ a = 2 ∨ a = 3 ∨ a = 4 := by omega
      all_goals
        clear ha
        go_enter Try.func15, Try.ntmps15
        go_wp2_with fail
        refine HHO.out.mono ?_
        rintro e w2 ⟨rfl, hb2⟩
        have HB3 := Lib.hid (hb2.alloc hb2.size (.cells #[.int .i64 v1, .int .i64 v2, .int .i64 v3, .int .i64 v4] 47))
        clear hb2 HHO
        go_wp2_with fail
        refine (HOF.out _ HB3.out).mono ?_
        rintro e w4 ⟨v, rfl, ho, hb⟩
        obtain ⟨A, n, cap, rfl, hk⟩ := ho.shape
        rcases first_bo hk with ⟨h1, _⟩ | ⟨x, b, ob, h1, rfl, hn0, hc⟩
        · have := HL0.out
          rw [h1] at this
          simp at this
        have hn : (0 : Int) < (n : Int) := by omega
        have hd : decide ((0 : Int) < (n : Int)) = true := decide_eq_true hn
        have hx2 : (x.m == 2) = true := by rw [← md_first h1, H2.out]; rfl
        have hcap := hk.cap
        have hsm := hk.small
        unfold maxLen at hsm
        have HB4 := Lib.hid (Below.then HB3.out hb (Nat.le_refl _))
        clear ho hb hk HOF HB3 h1
        go_wp2
        go_ret
        exact ⟨rfl, HB4.out⟩
    · have H2 := Lib.hid h2
      have hmd1 : md o L = 1 := by have := HMD.out; omega
      have HYY : Hid (y = if a = 2 ∨ a = 3 then 14 else 0) := Lib.hid (by
        rw [HE.out, hmd1]
        by_cases h3 : a = 2 ∨ a = 3
        · rw [if_pos h3, if_pos (by omega)]
        · rw [if_neg h3, if_neg (by omega)])
      clear HE HMD HNL HNZ h0 h2 hmd1
      obtain rfl | rfl | rfl | rfl : a = 1 ∨ a = 2 ∨ a = 3 ∨ a = 4 := by omega
      all_goals
        have hyy := HYY.out
        simp only [reduceIte, or_true, true_or, Int.reduceEq, or_self] at hyy
        subst hyy
        clear ha HYY
        go_enter Try.func15, Try.ntmps15
        go_wp2_with fail
        refine HHO.out.mono ?_
        rintro e w2 ⟨rfl, hb2⟩
        have HB3 := Lib.hid (hb2.alloc hb2.size (.cells #[.int .i64 v1, .int .i64 v2, .int .i64 v3, .int .i64 v4] 47))
        clear hb2 HHO
        go_wp2_with fail
        refine (HOF.out _ HB3.out).mono ?_
        rintro e w4 ⟨v, rfl, ho, hb⟩
        obtain ⟨A, n, cap, rfl, hk⟩ := ho.shape
        rcases first_bo hk with ⟨h1, _⟩ | ⟨x, b, ob, h1, rfl, hn0, hc⟩
        · have := HL0.out
          rw [h1] at this
          simp at this
        have hn : (0 : Int) < (n : Int) := by omega
        have hd : decide ((0 : Int) < (n : Int)) = true := decide_eq_true hn
        have hx2 : (x.m == 2) = false := by have := md_first h1; have := H2.out; simp; omega
        have hcap := hk.cap
        have hsm := hk.small
        unfold maxLen at hsm
        have HB4 := Lib.hid (Below.then HB3.out hb (Nat.le_refl _))
        clear ho hb hk HOF HB3 h1
        go_wp2
        go_ret
        exact ⟨rfl, HB4.out⟩
theorem accR_oth (H : Mlr w p L) (hW : Wl N L) (hN : N ≤ 100000) (ha : 1 ≤ a ∧ a ≤ 4) : Calls Try.prog 15 #[.pointer (some ⟨p, 0, none⟩), .int .i64 o, .int .i64 pl, .bool false, .int .i64 a] w fun e w' => e = .returned (.int .i64 (othE o pl a L)) ∧ Below w.heap.size w w' := by
  have hlL := hW.len
  have HH := Lib.hid (holdsR_any (o := o) (h := pl) H (by omega))
  unfold HoE at HH
  have HE : Hid (othE o pl a L = match hasL o pl L with | none => 13 | some b => if a = 3 ∨ a = 4 then 13 else if b.m = 1 ∧ a = 2 then 14 else 0) := Lib.hid rfl
  generalize othE o pl a L = y at *
  generalize hasL o pl L = r at *
  clear H hW
  cases r with
  | none =>
    obtain rfl : y = 13 := HE.out
    clear HE
    simp only [boV, boA, Option.isSome_none] at HH
    obtain rfl | rfl | rfl | rfl : a = 1 ∨ a = 2 ∨ a = 3 ∨ a = 4 := by omega
    all_goals
      clear ha
      go_enter Try.func15, Try.ntmps15
      go_wp2_with fail
      refine HH.out.mono ?_
      rintro e w1 ⟨rfl, hb⟩
      have HB := Lib.hid (hb.alloc hb.size (.cells #[.int .i64 0, .int .i64 0, .int .i64 0, .int .i64 0] 47))
      clear HH hb
      go_wp2
      go_ret
      exact ⟨rfl, HB.out⟩
  | some z =>
    simp only at HE
    simp only [boV, boA, Option.isSome_some] at HH
    by_cases hm : z.m = 1
    · have HYY : Hid (y = if a = 3 ∨ a = 4 then 13 else if a = 2 then 14 else 0) := Lib.hid (by
        rw [HE.out, hm]
        simp)
      have hm' : (z.m == 1) = true := by simpa using hm
      clear HE hm
      obtain rfl | rfl | rfl | rfl : a = 1 ∨ a = 2 ∨ a = 3 ∨ a = 4 := by omega
      all_goals
        have hyy := HYY.out
        simp only [reduceIte, or_true, true_or, Int.reduceEq, or_self] at hyy
        subst hyy
        clear ha HYY
        go_enter Try.func15, Try.ntmps15
        go_wp2_with fail
        refine HH.out.mono ?_
        rintro e w1 ⟨rfl, hb⟩
        have HB := Lib.hid (hb.alloc hb.size (.cells #[.int .i64 z.o, .int .i64 z.h, .int .i64 z.m, .int .i64 z.c] 47))
        clear HH hb
        go_wp2
        go_ret
        exact ⟨rfl, HB.out⟩
    · have HYY : Hid (y = if a = 3 ∨ a = 4 then 13 else 0) := Lib.hid (by
        rw [HE.out]
        simp [hm])
      have hm' : (z.m == 1) = false := by simpa using hm
      clear HE hm
      obtain rfl | rfl | rfl | rfl : a = 1 ∨ a = 2 ∨ a = 3 ∨ a = 4 := by omega
      all_goals
        have hyy := HYY.out
        simp only [reduceIte, or_true, true_or, Int.reduceEq, or_self] at hyy
        subst hyy
        clear ha HYY
        go_enter Try.func15, Try.ntmps15
        go_wp2_with fail
        refine HH.out.mono ?_
        rintro e w1 ⟨rfl, hb⟩
        have HB := Lib.hid (hb.alloc hb.size (.cells #[.int .i64 z.o, .int .i64 z.h, .int .i64 z.m, .int .i64 z.c] 47))
        clear HH hb
        go_wp2
        go_ret
        exact ⟨rfl, HB.out⟩
theorem accR_any (own : Bool) (a : Int) (H : Mlr w p L) (hW : Wl N L) (hN : N ≤ 100000) : Calls Try.prog 15 #[.pointer (some ⟨p, 0, none⟩), .int .i64 o, .int .i64 pl, .bool own, .int .i64 a] w fun e w' => e = .returned (.int .i64 (accE o pl own a L)) ∧ Below w.heap.size w w' := by
  unfold accE
  by_cases ha : 1 ≤ a ∧ a ≤ 4
  · rw [if_neg (by omega)]
    cases own with
    | false => exact accR_oth H hW hN ha
    | true => exact accR_own H hW hN ha
  · rw [if_pos ha]
    exact accR_bad own ha
theorem endHolderR_any (H : Mlb w c k p L) (hn : L.length ≤ 100000) : Calls Try.prog 21 #[.pointer (some ⟨p, 0, none⟩), .int .i64 h] w (MdE w c k p (.int .i64 (heldN h L)) (endH h L)) := by
  obtain ⟨i0, hi0, hz0, hz1, hz2⟩ := info_parts infoB
  have HH := Lib.hid (heldR_any (h := h) H.r hn)
  have HM := Lib.hid H
  obtain ⟨A, n, cap, hc, hk⟩ := H.r
  have HC := Lib.hid hc
  have HK := Lib.hid hk
  have hcap := hk.cap
  have hsm := hk.small
  have hlen := hk.len
  unfold maxLen at hsm
  unfold MdE
  clear hc hk H
  go_enter Try.func21, Try.ntmps21
  go_wp2_with fail
  refine HH.out.mono ?_
  rintro e w0 ⟨rfl, rfl⟩
  clear HH
  go_wp2
  go_loopw [6, 7] (fun lv iv wr => ∃ i : Nat, i ≤ n ∧ iv = .int .i64 i ∧ Hid (OwnK bo4 47 wr w.heap.size lv (endH h (L.take i)) ∧ Below w.heap.size w wr)) (fun _ iv _ => n - (intOf iv).toNat)
  case atStart => exact ⟨0, Nat.zero_le _, rfl, Lib.hid ⟨OwnK.nil _ _ _ _, Below.refl _ _⟩⟩
  case round =>
    obtain ⟨i, hi, rfl, hh⟩ := hrel
    obtain ⟨hor, hbr⟩ := hh.out
    obtain ⟨A1, n1, c1, rfl, hx1⟩ := hor.shape
    have c0 := (hbr.cell (p := ⟨p, 0, none⟩) (lt_of_some HC.out)).trans HC.out
    have HOR := Lib.hid hor
    have HBR := Lib.hid hbr
    by_cases hin : i < n
    · obtain ⟨b, ob, x, hx, rfl, hb, g0, g1, g2, g3⟩ := (HK.out.go hbr).bo hin
      have hi0' : (0 : Int) ≤ (i : Int) := by omega
      have hi1 : (i : Int) < (n : Int) := by omega
      have hd : decide ((i : Int) < (n : Int)) = true := decide_eq_true hi1
      by_cases he : x.h = h
      · have he' : (x.h != h) = false := by simpa using he
        have HST : Hid (endH h (L.take (i + 1)) = endH h (L.take i)) := Lib.hid (by rw [endH_step hx, if_pos he, List.append_nil])
        clear hh hor hbr hx1 hx hb he
        go_wp2
        go_roundw
        case rel => exact ⟨i + 1, by omega, by go_num, Lib.hid ⟨by rw [HST.out]; exact HOR.out, HBR.out⟩⟩
        case measure => simp [intOf]; omega
      · have he' : (x.h != h) = true := by simpa using he
        have HST : Hid (endH h (L.take (i + 1)) = endH h (L.take i) ++ [x]) := Lib.hid (by rw [endH_step hx, if_neg he])
        have HLE : Hid ((endH h (L.take i)).length ≤ 100000) := Lib.hid (take_len (endH h) (fun K => List.length_filter_le _ _) hn)
        have HNW : Hid (Kws bo4 (wr.alloc (.cells #[.int .i64 x.o, .int .i64 x.h, .int .i64 x.m, .int .i64 x.c] 47)) (wr.heap.size + 1) (some ⟨wr.heap.size, 0, none⟩) 1 1 [x]) := Lib.hid (Kws.new wr [x] _ _ 1 rfl rfl (by unfold maxLen; omega))
        clear hh hor hbr hx1 hx hb he
        go_wp2_with (at_builtin; go_must (refine wpList_appK _ rfl (.tmp 30) (.tmp 38) 26 rfl Try.underlying26 hi0 hz0 rfl hz1 (by omega) (HOR.out.alloc _) rfl HNW.out rfl (by have := HLE.out; omega) (by have := HBR.out.size; simp; omega) ?_); intro v3 w3 ho3 hb3 hg3; obtain ⟨A3, n3, c3, rfl, hx3⟩ := ho3.shape)
        have HO3 := Lib.hid ho3
        have HB3 := Lib.hid ((HBR.out.alloc HBR.out.size (.cells #[.int .i64 x.o, .int .i64 x.h, .int .i64 x.m, .int .i64 x.c] 47)).trans hb3)
        clear ho3 hb3 hg3 hx3 HNW
        go_wp2
        go_roundw
        case rel => exact ⟨i + 1, by omega, by go_num, Lib.hid ⟨by rw [HST.out]; exact HO3.out, HB3.out⟩⟩
        case measure => simp [intOf]; omega
    · obtain rfl : i = n := by omega
      have HE : Hid (L.take i = L) := Lib.hid (List.take_of_length_le (by omega))
      have hpw : ∃ v0, wr.heap[p]? = some (.cells #[v0] 28 (0, 0)) := by
        obtain ⟨_, A, n, cap, h2, _⟩ := HM.out
        exact ⟨_, (hbr.block p HM.out.lt).trans h2⟩
      obtain ⟨v0, hpw⟩ := hpw
      have f0 := frozen_of_row wr p 0 _ _ hpw
      have HPU := Lib.hid (Mlb.put (L' := endH h L) HM.out hbr (by rw [HE.out] at hor; exact hor))
      clear hh hor hbr hx1 hpw
      have hd : decide ((i : Int) < (i : Int)) = false := by simp
      go_wp2
      go_ret
      exact ⟨rfl, HPU.out⟩
/-- Without the borrows of an object, of some holders. -/
def remo (o : Int) (hs : List Int) (L : List Bo) : List Bo := L.filter fun x => decide (¬ (x.o = o ∧ x.h ∈ hs))
theorem remo_nil : remo o [] L = L := List.filter_eq_self.2 fun x _ => by simp
theorem remo_step {hs : List Int} : remL o h (remo o hs L) = remo o (hs ++ [h]) L := by
  unfold remL remo
  rw [List.filter_filter]
  refine List.filter_congr fun x _ => ?_
  rw [← Bool.decide_and]
  refine decide_eq_decide.2 ?_
  rw [List.mem_append, List.mem_singleton]
  constructor
  · rintro ⟨h1, h2⟩ ⟨h3, h4 | h4⟩
    · exact h2 ⟨h3, h4⟩
    · exact h1 ⟨h3, h4⟩
  · intro h1
    exact ⟨fun h2 => h1 ⟨h2.1, .inr h2.2⟩, fun h2 => h1 ⟨h2.1, .inl h2.2⟩⟩
theorem remo_end : remo o ((ofL o L).map Bo.h) L = endO o L := by
  unfold remo endO
  refine List.filter_congr fun x hx => decide_eq_decide.2 ⟨fun h1 h2 => h1 ⟨h2, List.mem_map.2 ⟨x, mem_of.2 ⟨hx, h2⟩, rfl⟩⟩, fun h1 h2 => h1 h2.1⟩
/-- What the model's EndObject leaves. -/
def MoE (w : World) (c : Nat → Nat) (k p : Nat) (l L' : List Bo) (e : Ending) (w' : World) : Prop := ∃ v, e = .returned v ∧ OwnK bo4 47 w' w.heap.size v l ∧ Mlb w' (rc c w.heap.size k) k p L' ∧ Kept c k w w'
theorem Mlb.recol (H : Mlb w c k p L) (hc : ∀ g, c g = k → c' g = k) : Mlb w c' k p L := by
  obtain ⟨h1, A, n, cap, h2, h3, h4⟩ := H
  exact ⟨hc _ h1, A, n, cap, h2, h3, fun g hg => hc _ (h4 g hg)⟩
theorem endObjectR_any (H : Mlb w c k p L) (hn : L.length ≤ 100000) : Calls Try.prog 24 #[.pointer (some ⟨p, 0, none⟩), .int .i64 o] w (MoE w c k p (ofL o L) (endO o L)) := by
  have HOF := Lib.hid (ofR_any (o := o) H.r hn)
  have HM := Lib.hid H
  unfold MkB at HOF
  unfold MoE
  clear H
  go_enter Try.func24, Try.ntmps24
  go_wp2_with fail
  refine HOF.out.mono ?_
  rintro e w1 ⟨v, rfl, ho, hb⟩
  obtain ⟨A, n, cap, rfl, hk⟩ := ho.shape
  have hcap := hk.cap
  have hsm := hk.small
  have hlen := hk.len
  unfold maxLen at hsm
  have hoL := of_len (o := o) (L := L)
  have HO := Lib.hid ho
  have HB := Lib.hid hb
  have HM1 : Hid (Mlb w1 (rc (rc c w.heap.size (k + 1)) w1.heap.size k) k p (remo o [] L)) := Lib.hid (by
    rw [remo_nil]
    exact HM.out.kept (j := k + 1) (Kept.ofBelow hb) (by omega) (fun g hg => by rw [rc_old (Nat.lt_of_lt_of_le hg hb.size), rc_old hg]))
  clear HOF ho hb hk
  go_wp2
  go_loopw [6] (fun iv wr => ∃ i : Nat, i ≤ n ∧ iv = .int .i64 i ∧ Hid (Mlb wr (rc (rc c w.heap.size (k + 1)) w1.heap.size k) k p (remo o (((ofL o L).map Bo.h).take i) L) ∧ Kept (rc c w.heap.size (k + 1)) k w1 wr)) (fun iv _ => n - (intOf iv).toNat)
  case atStart => exact ⟨0, Nat.zero_le _, rfl, Lib.hid ⟨HM1.out, Kept.refl⟩⟩
  case round =>
    obtain ⟨i, hi, rfl, hh⟩ := hrel
    obtain ⟨hMr, hKr⟩ := hh.out
    have hor : OwnK bo4 47 wr w.heap.size (.slice A n cap) (ofL o L) := HO.out.keptC hKr (fun g hg => by
      rw [rc_new (HO.out.ge hg).1]
      omega)
    have HOR := Lib.hid hor
    have HMR := Lib.hid hMr
    have HKR := Lib.hid hKr
    by_cases hin : i < n
    · obtain ⟨A', n', cc', e', hk2⟩ := hor.shape
      cases e'
      obtain ⟨b, ob, x, hx, rfl, hb, g0, g1, g2, g3⟩ := hk2.bo hin
      have hi0' : (0 : Int) ≤ (i : Int) := by omega
      have hi1 : (i : Int) < (n : Int) := by omega
      have hd : decide ((i : Int) < (n : Int)) = true := decide_eq_true hi1
      have HLE : Hid ((remo o (((ofL o L).map Bo.h).take i) L).length ≤ 100000) := Lib.hid (Nat.le_trans (List.length_filter_le _ _) hn)
      have HWI := Lib.hid (without_any (o := o) (h := x.h) hMr.r HLE.out)
      have HST : Hid (remo o (((ofL o L).map Bo.h).take (i + 1)) L = remL o x.h (remo o (((ofL o L).map Bo.h).take i) L)) := Lib.hid (by
        rw [remo_step, List.take_add_one, List.getElem?_map, hx]
        rfl)
      unfold MkB at HWI
      clear hh hMr hKr hor hk2 hx hb
      go_wp2_with fail
      refine HWI.out.mono ?_
      rintro e w5 ⟨v5, rfl, ho5, hb5⟩
      obtain ⟨A5, n5, cap5, rfl, hk5⟩ := ho5.shape
      have hpw : ∃ v0, w5.heap[p]? = some (.cells #[v0] 28 (0, 0)) := by
        obtain ⟨_, A, n, cap, h2, _⟩ := HMR.out
        exact ⟨_, (hb5.block p HMR.out.lt).trans h2⟩
      obtain ⟨v0, hpw⟩ := hpw
      have k0 := cell_of_row w5 p 0 _ _ _ hpw
      have f0 := frozen_of_row w5 p 0 _ _ hpw
      have hpu := Mlb.put HMR.out hb5 ho5
      rw [rc_rc HKR.out.size] at hpu
      have HP1 := Lib.hid hpu.1
      have HP2 := Lib.hid (HKR.out.then (fun g hg => rc_old hg) hpu.2)
      clear ho5 hb5 hk5 hpw hpu HWI HMR HKR HOR g0 g1 g2 g3
      go_wp2
      go_roundw
      case rel => exact ⟨i + 1, by omega, by go_num, Lib.hid ⟨by rw [HST.out]; exact HP1.out, HP2.out⟩⟩
      case measure => simp [intOf]; omega
    · obtain rfl : i = n := by omega
      have HE : Hid (remo o (((ofL o L).map Bo.h).take i) L = endO o L) := Lib.hid (by rw [List.take_of_length_le (by rw [List.length_map]; omega), remo_end])
      have hd : decide ((i : Int) < (i : Int)) = false := by simp
      clear hh hMr hKr hor
      go_wp2
      go_ret
      rw [HE.out] at HMR
      refine ⟨_, rfl, HOR.out, HMR.out.recol fun g hg => ?_, (Kept.ofBelow HB.out).then (fun g hg => rc_old hg) HKR.out⟩
      by_cases h1 : g < w.heap.size
      · rw [rc_old h1]
        rw [rc_old (Nat.lt_of_lt_of_le h1 HB.out.size), rc_old h1] at hg
        exact hg
      · exact rc_new (by omega)
end
end Go.Proofs.Ytmmlelmkgnhofaa
