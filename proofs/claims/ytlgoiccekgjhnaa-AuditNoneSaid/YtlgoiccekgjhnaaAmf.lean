/-
  Contracts of the model's BytesOf and DigestOf: what they return is what the plain functions of the text Alp say. Conditions: the events are valid, at most a thousand.
-/
import Derived.Test.YtlgoiccekgjhnaaAme
namespace Go.Proofs.Ytlgoiccekgjhnaa
open Go.ChangeShapes Go.WideShapes Go.ChangeAt Go.RowKit
set_option linter.unusedVariables false
set_option linter.unusedSimpArgs false
set_option maxHeartbeats 4000000
set_option maxRecDepth 100000

/-- As a step by hand: an append of bytes. -/
theorem held_appB {P : Program} {ops : Array Oper} {Q : Exit → Act → World → Prop} {j d : Nat} {o : Oper} {K : Act → World → Prop} {a : Act} {w : World} (hi' : ops[j]? = some o) (hd : o.dst = some d) (hgd : Region.wanted o (yielded ops a.tmps) = true) (s x : Operand) (t : TypeId)
    (ho : o.op = .call { callee := .builtin .append, args := #[s, x], argTypes := #[t, t] })
    {i : TypeInfo} (ht : P.underlying t = some (.slice 5)) (hi : P.info? 5 = some i) (hz : i.zero = some (.int .u8 0)) (hsz : i.size = 1) (hby : i.bytes = 1)
    {base : Nat} {v : Value} {xs : List Int} (hown : OwnB w base v xs) (hs : a.eval s = v) {B : Nat} {A : Option Addr} {m c : Nat} {ys : List Int} (hy : Bts w B A m c ys) (hx : a.eval x = .slice A m c)
    (hsm : xs.length + m ≤ 4294967296) (hb : base ≤ w.heap.size)
    (h : ∀ v' w', OwnB w' base v' (xs ++ ys) → Below base w w' → K (a.put (some d) v') w') : wpOp P ops Q j K a w := by
  rw [← hd] at h
  unfold wpOp
  simp only [hi']
  rw [if_pos hgd]
  refine .inl ?_
  obtain ⟨v', w', hrun, h2, h3⟩ := run_appB (P := P) w t o.type 5 rfl i ht hi hz hsz hby base v xs hown hy hsm hb
  unfold Oper.wp execOp
  simp only [ho, resolve, invoke, builtin, Sem.run_bind, Sem.run_pure, Result.andThen_ok, List.map_toArray, List.map_cons, List.map_nil, hs, hx, hrun]
  exact h v' w' h2 h3
theorem dig_at {ls : List (List Int)} {k : Nat} (h : k < ls.length) : (dig start ls).getD k 0 = lst start (ls.take (k + 1)) := by
  have h1 := dig_take start ls (k + 1)
  have h2 := dig_take_succ ls k h
  have h3 : ((dig start ls).take (k + 1)).getD k 0 = (dig start ls).getD k 0 := by simp [List.getD]
  rw [← h3, h1, ← h2]
  have h4 : (dig start (ls.take k)).length = k := by rw [dig_len, List.length_take]; omega
  rw [lst_take ls k h] at *
  simp [List.getD, h4]
theorem lgD_take {l : List Ev5} {k : Nat} (h : k < l.length) : (dig start (l.map eo)).getD k 0 = lgD start (l.take (k + 1)) := by
  rw [dig_at (by rw [List.length_map]; exact h), ← List.map_take]
  rfl
theorem lgB_next {l : List Ev5} {k : Nat} {x : Ev5} (h : l[k]? = some x) : lgB start (l.take (k + 1)) = (lgB start (l.take k) ++ encB (eo x)) ++ low 8 (lgD start (l.take (k + 1))) := by
  rw [List.take_add_one, h, Option.toList_some, lgB_snoc, lgD_snoc]
  simp [rcd]
theorem bytesOf_any (A : Option Addr) (n c : Nat) (l : List Ev5) (w : World) (h : Kws ev5 w w.heap.size A n c l) (hg : Goods l) (hn : n ≤ 1000) :
    Calls Try.prog 19 #[.slice A n c] w (Made w (lgB start l)) := by
  obtain ⟨i8, hi8, hz0, hz1, hz2⟩ := info_parts info8
  have HI := Lib.hid hi8
  have HZ0 := Lib.hid hz0
  have HZ1 := Lib.hid hz1
  have HZ2 := Lib.hid hz2
  have HEN := Lib.hid (encoded_any A n c l w h hg hn)
  have HG := Lib.hid hg
  have hlen := h.len
  have HFN : Hid (∀ (v : Value) (W : World), OwnB W w.heap.size v (lgB start l) → Below w.heap.size w W → Made w (lgB start l) (.returned v) W) := Lib.hid (fun v W h1 h2 => ⟨v, rfl, h1, h2⟩)
  clear h hg hi8 hz0 hz1 hz2
  go_enter Try.func19, Try.ntmps19
  go_wp2_with fail
  refine HEN.out.mono ?_
  rintro e w2 ⟨A2, n2, c2, rs, rfl, har, hbs, hb2⟩
  have hrl : rs.length = n := by
    have h1 := congrArg List.length hbs
    rw [bs_len, List.length_map] at h1
    omega
  obtain rfl : n2 = n := har.len.symm.trans hrl
  have HSH : Hid (Short 60 rs) := Lib.hid (fun r hr => by
    obtain ⟨i, hi, rfl⟩ := List.mem_iff_getElem.1 hr
    have h1 := (har.recs _ hr).1.len
    rw [iv_len] at h1
    have h2 : (rs[i]).l = eo (l[i]'(by omega)) := by
      have h3 := congrArg (fun z => z[i]?) hbs
      simp only [bs, List.getElem?_map] at h3
      rw [List.getElem?_eq_getElem hi, List.getElem?_eq_getElem (by omega)] at h3
      simpa using h3
    have h4 := (HG.out _ (List.getElem_mem (by omega : i < l.length))).len
    rw [← h2] at h4
    omega)
  have HDG := Lib.hid (digestsR_any A2 n2 c2 rs w2 har hn (fun r hr => by have := HSH.out r hr; omega))
  rw [hbs] at HDG
  have HAR := Lib.hid har
  have HBS := Lib.hid hbs
  have HB2 := Lib.hid hb2
  have hcap2 := har.row.cap
  have hsm2 := har.row.small
  unfold maxLen at hsm2
  unfold MadeV at HDG
  clear har hbs hb2 HEN
  go_wp2_with fail
  refine HDG.out.mono ?_
  rintro e w3 ⟨v3, rfl, ho3, hb3⟩
  obtain ⟨A3, n3, c3, rfl, hr3⟩ := ho3.shape
  have hn3 : n3 = n2 := by
    have h1 := hr3.len
    rw [iv_len, dig_len, List.length_map] at h1
    omega
  subst hn3
  have HD3 := Lib.hid hr3
  have hcap3 := hr3.cap
  have hsm3 := hr3.small
  unfold maxLen at hsm3
  have HAR3 := Lib.hid (HAR.out.go hb3)
  have HB3 := Lib.hid (Below.then HB2.out hb3 (Nat.le_refl _))
  clear ho3 hr3 hb3 HDG HAR HB2
  go_wp2
  go_loopw [5, 6] (fun ov iv wr => ∃ i : Nat, i ≤ n3 ∧ iv = .int .i64 i ∧ ∃ A4 n4 c4, ov = .slice A4 n4 c4 ∧ n4 ≤ 100000 ∧ Hid (OwnB wr w.heap.size (.slice A4 n4 c4) (lgB start (l.take i)) ∧ Below w3.heap.size w3 wr)) (fun _ iv _ => n3 - (intOf iv).toNat)
  case atStart => exact ⟨0, Nat.zero_le _, rfl, none, 0, 0, rfl, by omega, Lib.hid ⟨OwnB.nil _ _, Below.refl _ _⟩⟩
  case round =>
    obtain ⟨i, hi, rfl, A4, n4, c4, rfl, hn4, hh⟩ := hrel
    have HO := Lib.hid hh.out.1
    have HBR := Lib.hid hh.out.2
    clear hh
    by_cases hin : i < n3
    · have hi1 : (i : Int) < (n3 : Int) := by omega
      have hx : l[i]? = some (l[i]'(by omega)) := List.getElem?_eq_getElem (by omega)
      have HNX := Lib.hid (lgB_next hx)
      have hgx := HG.out _ (List.mem_of_getElem? hx)
      have HLN : Hid ((lgB start (l.take (i + 1))).length ≤ 100000) := Lib.hid (by
        have h1 := (lgB_len (d := start) (HG.out.take (i + 1))).1
        have h2 := List.length_take (i := i + 1) (l := l)
        omega)
      obtain ⟨b, o, r, hr, rfl, hbb, hcl, hrow, hfit⟩ := (HAR3.out.go HBR.out).row.rec_ (HAR3.out.go HBR.out).recs hin
      have hrl2 : r.l = eo (l[i]'(by omega)) := by
        have h1 := congrArg (fun z => z[i]?) HBS.out
        simp only [bs, List.getElem?_map, hr, hx] at h1
        simpa using h1
      have hrn : r.n ≤ 60 := HSH.out r (List.mem_of_getElem? hr)
      obtain ⟨b5, o5, rfl, hb5, hcl5⟩ := (HD3.out.go HBR.out).int hin
      rw [lgD_take (by omega)] at hcl5
      have HR := Lib.hid (hrl2 ▸ hrow.bts)
      have HL1 : Hid (∀ W, Below wr.heap.size wr W → W.cell? ⟨b, o + i, none⟩ = some (.slice r.A r.n r.c)) := Lib.hid (fun W hW => (hW.cell (p := ⟨b, o + i, none⟩) hbb).trans hcl)
      have HL2 : Hid (∀ W, Below wr.heap.size wr W → W.cell? ⟨b5, o5 + i, none⟩ = some (.int .u64 (lgD start (l.take (i + 1))))) := Lib.hid (fun W hW => (hW.cell (p := ⟨b5, o5 + i, none⟩) hb5).trans hcl5)
      have HD0 : Hid (Below wr.heap.size wr wr.drew) := Lib.hid (below_drewN (Below.refl _ wr) 1)
      have HP := Lib.hid (fun W (hW : Below wr.heap.size wr W) => putBytesR_any A4 n4 c4 _ r.A r.n r.c _ W (((OwnB.len HO.out).below hW).more hW.size) ((HR.out.below hW).more hW.size) (by omega) (by omega))
      have HE8 := Lib.hid (fun W => eight_any (lgD start (l.take (i + 1))) W)
      generalize lgD start (l.take (i + 1)) = dx at *
      generalize eo (l[i]'(by omega)) = ex at *
      obtain ⟨rA, rn, rc', rl⟩ := r
      simp only at *
      unfold Made at HP
      unfold MadeV at HE8
      clear hx hgx hr hbb hcl hrow hfit hrl2 hb5 hcl5
      go_wp2
      refine wp_region_hand 13 (fun W => Below wr.heap.size wr W) (by kernel_rfl) (by kernel_rfl) ?_
      rw [show Array.replicate 13 false = #[false, false, false, false, false, false, false, false, false, false, false, false, false] from rfl]
      have hHeld := HD0.out
      refine held_take (i := 0) (d := 17) (v := .slice A4 n4 c4) rfl rfl (by kernel_rfl) (by kernel_rfl) (by kernel_rfl) (fun _ _ _ h => h) (by rfl) (fun W _ => run_move_is (.tmp 5) rfl rfl W) hHeld ?_
      simp only [Act.put, List.setIfInBounds_toArray, List.set_cons_zero, List.set_cons_succ]
      refine held_take (i := 1) (d := 18) (v := .slice (some ⟨b, o, none⟩) n3 c2) rfl rfl (by kernel_rfl) (by kernel_rfl) (by kernel_rfl) (fun _ _ _ h => h) (by rfl) (fun W _ => run_move_is (.tmp 3) rfl rfl W) hHeld ?_
      simp only [Act.put, List.setIfInBounds_toArray, List.set_cons_zero, List.set_cons_succ]
      refine held_take (i := 2) (d := 19) (v := .int .i64 (i : Int)) rfl rfl (by kernel_rfl) (by kernel_rfl) (by kernel_rfl) (fun _ _ _ h => h) (by rfl) (fun W _ => run_move_is (.tmp 6) rfl rfl W) hHeld ?_
      simp only [Act.put, List.setIfInBounds_toArray, List.set_cons_zero, List.set_cons_succ]
      refine held_take (i := 3) (d := 20) (v := .pointer (some ⟨b, o + i, none⟩)) rfl rfl (by kernel_rfl) (by kernel_rfl) (by kernel_rfl) (fun _ _ _ h => h) (by rfl) (fun W _ => by go_simp) hHeld ?_
      simp only [Act.put, List.setIfInBounds_toArray, List.set_cons_zero, List.set_cons_succ]
      refine held_take (i := 4) (d := 21) (v := .slice rA rn rc') rfl rfl (by kernel_rfl) (by kernel_rfl) (by kernel_rfl) (fun _ _ _ h => h) (by rfl) (fun W hW => by have q := HL1.out W hW; go_simp) hHeld ?_
      simp only [Act.put, List.setIfInBounds_toArray, List.set_cons_zero, List.set_cons_succ]
      refine held_take (i := 6) (d := 23) (v := .slice (some ⟨b5, o5, none⟩) n3 c3) rfl rfl (by kernel_rfl) (by kernel_rfl) (by kernel_rfl) (fun _ _ _ h => h) (by rfl) (fun W _ => run_move_is (.tmp 4) rfl rfl W) hHeld ?_
      simp only [Act.put, List.setIfInBounds_toArray, List.set_cons_zero, List.set_cons_succ]
      refine held_take (i := 7) (d := 24) (v := .int .i64 (i : Int)) rfl rfl (by kernel_rfl) (by kernel_rfl) (by kernel_rfl) (fun _ _ _ h => h) (by rfl) (fun W _ => run_move_is (.tmp 6) rfl rfl W) hHeld ?_
      simp only [Act.put, List.setIfInBounds_toArray, List.set_cons_zero, List.set_cons_succ]
      refine held_take (i := 8) (d := 25) (v := .pointer (some ⟨b5, o5 + i, none⟩)) rfl rfl (by kernel_rfl) (by kernel_rfl) (by kernel_rfl) (fun _ _ _ h => h) (by rfl) (fun W _ => by go_simp) hHeld ?_
      simp only [Act.put, List.setIfInBounds_toArray, List.set_cons_zero, List.set_cons_succ]
      refine held_take (i := 9) (d := 26) (v := .int .u64 dx) rfl rfl (by kernel_rfl) (by kernel_rfl) (by kernel_rfl) (fun _ _ _ h => h) (by rfl) (fun W hW => by have q := HL2.out W hW; go_simp) hHeld ?_
      simp only [Act.put, List.setIfInBounds_toArray, List.set_cons_zero, List.set_cons_succ]
      have HCL := Lib.hid (HP.out wr.drew HD0.out)
      refine held_one (i := 5) (by kernel_rfl) ?_
      refine held_callX (d := 22) rfl rfl (by rfl) rfl (by kernel_rfl) Try.func28 (by kernel_rfl) HCL.out ?_
      rintro e w5 ⟨v5, rfl, ho5, hb5⟩
      have HO5 := Lib.hid ho5
      have HD5 := Lib.hid (Below.then HD0.out hb5 (Nat.le_refl _))
      clear ho5 hb5
      refine ⟨_, rfl, ?_⟩
      clear HCL hHeld
      have hHeld := HD5.out
      refine ⟨hHeld, ?_⟩
      simp only [Act.put, List.setIfInBounds_toArray, List.set_cons_zero, List.set_cons_succ]
      have HCL := Lib.hid (HE8.out w5)
      refine held_one (i := 10) (by kernel_rfl) ?_
      refine held_callX (d := 27) rfl rfl (by rfl) rfl (by kernel_rfl) Try.func29 (by kernel_rfl) HCL.out ?_
      rintro e w6 ⟨v6, rfl, ho6, hb6⟩
      obtain ⟨A6, n6, c6, rfl, hr6⟩ := ho6.bts.shape
      have hn6 : n6 ≤ 8 := by have h1 := hr6.len; rw [low_len] at h1; omega
      have HR6 := Lib.hid hr6
      have HO6 := Lib.hid (HO5.out.below hb6)
      have HD6 := Lib.hid (Below.then HD5.out hb6 (Nat.le_refl _))
      clear ho6 hr6 hb6 HO5
      refine ⟨_, rfl, ?_⟩
      clear HCL hHeld
      have hHeld := HD6.out
      refine ⟨hHeld, ?_⟩
      simp only [Act.put, List.setIfInBounds_toArray, List.set_cons_zero, List.set_cons_succ]
      refine held_one (i := 11) (by kernel_rfl) ?_
      refine held_appB (d := 28) rfl rfl (by rfl) (.tmp 22) (.tmp 27) 52 rfl Try.underlying52 HI.out HZ0.out HZ1.out HZ2.out (HO6.out.down (B := wr.heap.size) (Nat.le_refl _)) rfl HR6.out rfl (by have h1 := HLN.out; rw [HNX.out, List.length_append, low_len] at h1; omega) HD6.out.size ?_
      intro v9 z9 ho9 hb9
      have HO9 : Hid (OwnB z9 wr.heap.size v9 ((lgB start (l.take i) ++ encB ex) ++ low 8 dx)) := Lib.hid ho9
      have HD9 := Lib.hid (HD6.out.trans hb9)
      clear ho9 hb9 HR6 HO6
      clear hHeld
      have hHeld := HD9.out
      refine ⟨hHeld, ?_⟩
      simp only [Act.put, List.setIfInBounds_toArray, List.set_cons_zero, List.set_cons_succ]
      refine held_take (i := 12) (d := 5) (v := v9) rfl rfl (by kernel_rfl) (by kernel_rfl) (by kernel_rfl) (fun _ _ _ h => h) (by rfl) (fun W _ => by go_simp) hHeld ?_
      simp only [Act.put, List.setIfInBounds_toArray, List.set_cons_zero, List.set_cons_succ]
      refine wpAnyH_done (by kernel_rfl) ?_ _
      clear hHeld
      obtain ⟨A9, n9, c9, rfl, hr9⟩ := HO9.out.shape
      have hn9 : n9 ≤ 100000 := by have h1 := hr9.len; have h2 := HLN.out; rw [HNX.out] at h2; omega
      have HF : Hid (OwnB z9 w.heap.size (.slice A9 n9 c9) (lgB start (l.take (i + 1))) ∧ Below w3.heap.size w3 z9) := Lib.hid ⟨by
        have h1 := HO9.out.down (B := w.heap.size) (Nat.le_trans HB3.out.size HBR.out.size)
        rw [HNX.out]; exact h1, Below.then HBR.out HD9.out (Nat.le_refl _)⟩
      clear hr9 HO9 HD9 HL1 HL2 HP HE8 HR HNX HLN HO HBR
      go_wp2
      go_roundw
      case rel => exact ⟨i + 1, by omega, by go_num, A9, n9, c9, rfl, hn9, HF⟩
      case measure => simp [intOf]; omega
    · obtain rfl : i = n3 := by omega
      have hd : ¬ (i : Int) < (i : Int) := by omega
      have HF : Hid (Made w (lgB start l) (.returned (.slice A4 n4 c4)) wr) := Lib.hid (HFN.out _ _ (by
        have h1 := HO.out
        rwa [List.take_of_length_le (by omega)] at h1) (Below.then HB3.out HBR.out (Nat.le_refl _)))
      go_wp2
      go_ret
      exact HF.out
theorem digestOf_any (A : Option Addr) (n c : Nat) (l : List Ev5) (w : World) (h : Kws ev5 w w.heap.size A n c l) (hg : Goods l) (hn : n ≤ 1000) :
    Calls Try.prog 48 #[.slice A n c] w (Says w (.int .u64 (lgD start l))) := by
  have HEN := Lib.hid (encoded_any A n c l w h hg hn)
  have HG := Lib.hid hg
  have hlen := h.len
  have HLD : Hid (lgD start l = lst start (l.map eo)) := Lib.hid rfl
  generalize lgD start l = dd at *
  clear h hg
  go_enter Try.func48, Try.ntmps48
  go_wp2_with fail
  refine HEN.out.mono ?_
  rintro e w2 ⟨A2, n2, c2, rs, rfl, har, hbs, hb2⟩
  have hrl : rs.length = n := by
    have h1 := congrArg List.length hbs
    rw [bs_len, List.length_map] at h1
    omega
  obtain rfl : n2 = n := har.len.symm.trans hrl
  have hsh : Short 1000 rs := fun r hr => by
    obtain ⟨i, hi, rfl⟩ := List.mem_iff_getElem.1 hr
    have h1 := (har.recs _ hr).1.len
    rw [iv_len] at h1
    have h2 : (rs[i]).l = eo (l[i]'(by omega)) := by
      have h3 := congrArg (fun z => z[i]?) hbs
      simp only [bs, List.getElem?_map] at h3
      rw [List.getElem?_eq_getElem hi, List.getElem?_eq_getElem (by omega)] at h3
      simpa using h3
    have h4 := (HG.out _ (List.getElem_mem (by omega : i < l.length))).len
    rw [← h2] at h4
    omega
  have HDG := Lib.hid (digestsR_any A2 n2 c2 rs w2 har hn hsh)
  rw [hbs] at HDG
  have HB2 := Lib.hid hb2
  unfold MadeV at HDG
  clear har hbs hb2 HEN hsh
  go_wp2_with fail
  refine HDG.out.mono ?_
  rintro e w3 ⟨v3, rfl, ho3, hb3⟩
  obtain ⟨A3, n3, c3, rfl, hr3⟩ := ho3.shape
  have hn3 : n3 = n2 := by
    have h1 := hr3.len
    rw [iv_len, dig_len, List.length_map] at h1
    omega
  subst hn3
  have HD3 := Lib.hid hr3
  have hcap3 := hr3.cap
  have hsm3 := hr3.small
  unfold maxLen at hsm3
  have HB3 := Lib.hid (Below.then HB2.out hb3 (Nat.le_refl _))
  clear ho3 hr3 hb3 HDG HB2
  by_cases hz : n3 = 0
  · have hl0 : l = [] := List.eq_nil_of_length_eq_zero (by omega)
    have HE : Hid (dd = start) := Lib.hid (by rw [HLD.out, hl0]; rfl)
    have hzi : (n3 : Int) = 0 := by omega
    have hzb : ((n3 : Int) == 0) = true := by rw [hzi]; rfl
    have HN := Lib.hid (sumR_any none 0 0 [] w3 (B := 0) Row.none_ (fun x hx => by cases hx) (by omega))
    rw [fnv_nil] at HN
    unfold Num at HN
    clear hl0 hcap3 hsm3 hn hlen hrl HD3
    go_wp2_with fail
    refine HN.out.mono ?_
    rintro e w4 ⟨rfl, hww⟩
    subst hww
    go_wp2
    go_ret
    rw [HE.out]
    exact Says.of HB3.out
  · have hzb : ((n3 : Int) == 0) = false := by simp; omega
    have hpos : 0 < n3 := by omega
    obtain ⟨b5, o5, rfl, hb5, hcl5⟩ := HD3.out.int (show n3 - 1 < n3 by omega)
    have HE : Hid ((dig start (l.map eo)).getD (n3 - 1) 0 = dd) := Lib.hid (by
      have h1 := dig_last start (l.map eo) (fun h0 => by
        have h1 := congrArg List.length h0
        simp at h1
        rw [h1] at hlen
        simp at hlen
        omega)
      rw [List.length_map, hlen] at h1
      rw [h1, HLD.out])
    rw [HE.out] at hcl5
    have e1 : IntKind.i64.wrap ((n3 : Int) - 1) = ((n3 - 1 : Nat) : Int) := by rw [IntKind.wrap_i64]; omega
    have e2 : (0 : Int) ≤ ((n3 - 1 : Nat) : Int) := by omega
    have e3 : ((n3 - 1 : Nat) : Int) < (n3 : Int) := by omega
    clear hb5 HD3
    go_wp2
    go_ret
    exact Says.of HB3.out
end Go.Proofs.Ytlgoiccekgjhnaa
