/-
  Contracts of the landed ledger's remove, Release, EndObject and EndHolder. Conditions: at most a hundred thousand borrows.
-/
import Derived.Test.YtmmlelmkgnhofaaLdw
namespace Go.Proofs.Ytmmlelmkgnhofaa
open Go.ChangeShapes Go.WideShapes Go.ChangeAt Go.RowKit
open Go.Maps (Keyed int_keyed)
set_option linter.unusedVariables false
set_option linter.unusedSimpArgs false
set_option maxHeartbeats 4000000
set_option maxRecDepth 100000

theorem of_ext_nil {o : Int} {L : List Bo} (h : (ofL o L).length = 0) : ofL o L = [] := List.eq_nil_of_length_eq_zero h
section
variable {w w' : World} {c : Nat → Nat} {k p b n N : Nat} {D : DataW Value} {sl : Int → Value} {L L' : List Bo} {o h m : Int}
theorem remove_any (H : Led w c k p L) (hn : L.length ≤ 100001) (ho : Ri o) {i : Nat} (hi : i < (ofL o L).length) (hLo : (ofL o L).take i ++ (ofL o L).drop (i + 1) = ofL o L') (hLn : ∀ o', o' ≠ o → ofL o' L' = ofL o' L) (hri : ∀ x ∈ L', Ri x.o) :
    Calls Try.prog 38 #[.pointer (some ⟨p, 0, none⟩), .int .i64 o, .int .i64 i] w (LdE w c k p (.tuple #[]) L') := by
  have hlen := of_len (o := o) (L := L)
  obtain ⟨hcp, mv, hp, hm⟩ := H
  rcases hm with ⟨rfl, rfl⟩ | ⟨b, rfl, hcb, n, D, sl, hown, S⟩
  · simp [ofL] at hi
  have hm : Mv w c k (some b) L := .inr ⟨b, rfl, hcb, n, D, sl, hown, S⟩
  have hown0 := own_map hown
  have hsz := size_le hown S
  have hpl : p < w.heap.size := (Array.getElem?_eq_some_iff.1 hp).1
  have hbl := hown.lt
  have hSo := S.own o ho
  obtain ⟨A, n0, cap, e0, hk⟩ := hSo.1.shape
  have hrun : (Instr.lookup 52 (.map (some b)) (.int .i64 o) false).run Try.prog w = .ok (.slice A n0 cap) w := by
    obtain ⟨A1, n1, cap1, h1, h2⟩ := hm.look ho
    obtain ⟨v, ps, h3, h4⟩ := hown.lookup law3 Try.underlying52 (zeroB w) (zd := .held (.slice none 0 0)) (zp := []) rfl (key3 ho)
    rw [S.at_ o ho] at h4
    unfold tk at h4
    injection h4 with h4
    injection h4 with h5 _
    injection h5 with h5
    rw [h3, h5, e0]
  have HDL := Lib.hid (delete1_any (sl o) (ofL o L) 0 i w hSo.1 hi (by omega))
  rw [e0, hLo] at HDL
  have c0 := cell_of_row w p 0 _ _ _ hp
  have hne1 : (sl o).ownBlock ≠ some p := led_ne hp hSo.1
  have hne2 : (sl o).ownBlock ≠ some b := own_ne_map hown hSo.1
  have hi1 : (i : Int) + 1 ≤ 100001 := by omega
  have HS := Lib.hid S
  have HP := Lib.hid hp
  have HOW := Lib.hid hown0
  have HCP := Lib.hid hcp
  have HCB := Lib.hid hcb
  have HLN := Lib.hid hLn
  have HRI := Lib.hid hri
  have HE0 := Lib.hid e0
  have HK := Lib.hid hk
  have HSZ : Hid (Maps.size D < maxLen) := Lib.hid (by unfold maxLen; omega)
  have HO := Lib.hid ho
  have HN1 := Lib.hid hne1
  have HN2 := Lib.hid hne2
  have HPL := Lib.hid hpl
  have HBL := Lib.hid hbl
  unfold LdE
  clear hown hown0 S hm hp hcp hcb hLn hri e0 hk hSo hi hLo hne1 hne2 hsz hlen
  go_enter Try.func38, Try.ntmps38
  go_wp2_with fail
  refine HDL.out.mono ?_
  rintro e w1 ⟨v', rfl, ho1, hg1, hb1⟩
  have hgb := hb1
  obtain ⟨A1, n1, cap1, rfl, hx1⟩ := ho1.shape
  have hn1 := hx1.len
  have HG1 := Lib.hid (show w.grownBy w1 (sl o).ownBlock by rw [HE0.out]; exact hg1)
  have HB1 : Hid ((Value.slice A1 n1 cap1).ownBlock = (sl o).ownBlock) := Lib.hid (by rw [HE0.out]; exact hb1)
  have HO1 := Lib.hid ho1
  have hp1 : w1.heap[p]? = some (.cells #[.map (some b)] 54 (0, 0)) := (HG1.out.block p hpl (fun e => HN1.out e.symm)).trans HP.out
  have c1 := cell_of_row w1 p 0 _ _ _ hp1
  have hown1 := ownsMap_keep HOW.out (HG1.out.block b hbl (fun e => HN2.out e.symm))
  have HL1 := Lib.hid hn1
  clear HDL ho1 hg1 hb1 hgb hx1 hn1 hp1 hrun c0
  by_cases hz : n1 = 0
  · subst hz
    have HNL := Lib.hid (of_ext_nil HL1.out)
    go_wp2_with (first | (at_delete; refine wpList_delete_own _ rfl _ _ 52 3 rfl 26 law3 Try.underlying52 _ b _ D rfl hown1 _ _ rfl (key3 HO.out) ?_; intro w2 hown2 hturn2))
    go_end0
    refine ⟨rfl, Led.upd HCP.out HP.out HCB.out HOW.out HS.out HO.out HG1.out hturn2.grown hown2 (v' := .slice none 0 0) (by rw [HNL.out]; exact OwnK.nil _ _ _ _) (.inr fun g hg => by cases hg) HLN.out ?_ (Maps.atKey_del_same _) (fun o' hne => ⟨Maps.has_del_other (lit_ne hne), Maps.atKey_del_other (lit_ne hne) _⟩) HRI.out⟩
    rw [Maps.has_del_same, HNL.out]
    simp
  · have hz' : ((n1 : Int) == 0) = false := by simpa using hz
    have HNL : Hid (ofL o L' ≠ []) := Lib.hid (fun e => hz (by rw [← HL1.out, e]; rfl))
    go_wp2_with (first | (at_mapUpdate; refine wpList_mapUpdate_own _ rfl _ _ _ 52 rfl 3 26 law3 Try.underlying52 tk b _ D rfl hown1 HSZ.out _ _ _ rfl rfl (key3 HO.out) (.held (.slice A1 n1 cap1)) [] rfl ?_; intro w2 hown2 hg2))
    go_end0
    have hk2 : OwnK bo4 47 w2 0 (.slice A1 n1 cap1) (ofL o L') := OwnK.kept HO1.out hg2 (.inr (by rw [HB1.out]; exact HN2.out))
    refine ⟨rfl, Led.upd HCP.out HP.out HCB.out HOW.out HS.out HO.out HG1.out hg2 hown2 hk2 (.inl HB1.out) HLN.out ?_ (Maps.atKey_put_same hown1.isMap (isKey3 HO.out) _ _) (fun o' hne => ⟨Maps.has_put_other (lit_ne hne) _, Maps.atKey_put_other (lit_ne hne) _ _⟩) HRI.out⟩
    rw [Maps.has_put_same hown1.isMap (isKey3 HO.out)]
    simp [HNL.out]
theorem Led.step {wf w1 : World} (hb : Below w.heap.size w wf) (U : Led w1 (rc (rc c w.heap.size k) wf.heap.size k) k p L' ∧ Kept (rc c w.heap.size k) k wf w1) : Led w1 (rc c w.heap.size k) k p L' ∧ Kept c k w w1 := by
  obtain ⟨h1, h2⟩ := U
  rw [rc_rc hb.size] at h1
  exact ⟨h1, (Kept.ofBelow hb).then (fun g hg => rc_old hg) h2⟩
/-- What the search found. -/
theorem found_none {i : Nat} {f : Bool} (hL : Srt L) (hlb : Lbo (ofL o L) h i) (hf : f = true ↔ ∃ z, (ofL o L)[i]? = some z ∧ z.h = h) : (hasL o h L = none → f = false) ∧ ∀ z, hasL o h L = some z → f = true ∧ (ofL o L)[i]? = some z ∧ z.h = h := by
  have hh := has_at hL hlb
  constructor
  · intro e
    cases f with
    | false => rfl
    | true =>
      obtain ⟨z, hz, hzp⟩ := hf.1 rfl
      rw [e, hz, Option.filter_some, if_pos (by simpa using hzp)] at hh
      cases hh
  · intro z e
    rw [e] at hh
    cases hz : (ofL o L)[i]? with
    | none =>
      rw [hz] at hh
      cases hh
    | some y =>
      rw [hz, Option.filter_some] at hh
      split at hh
      · rename_i hy
        obtain rfl := Option.some.inj hh
        have hy' : z.h = h := by simpa using hy
        exact ⟨hf.2 ⟨z, hz, hy'⟩, rfl, hy'⟩
      · cases hh
theorem release_no {q : Option Addr} (H : Ldq w c k q L) (ho : Ri o) (hL : Srt L) (hn : L.length ≤ 1000000) (hh : hasL o h L = none) : Calls Try.prog 18 #[.pointer q, .int .i64 o, .int .i64 h] w fun e w' => e = .returned (.int .i64 13) ∧ Below w.heap.size w w' := by
  obtain ⟨mv, hm, hl⟩ := lists_any H
  obtain ⟨A, n, cap, hr, hx⟩ := hm.look ho
  obtain ⟨A', n', cap', e, hk⟩ := hx.1.shape
  cases e
  have hlen := hk.len
  have HL := Lib.hid (hl w (fun _ _ h => h))
  have HF := Lib.hid (find_any A n cap _ h _ hk (by have := of_len (o := o) (L := L); omega) (hL.hs o))
  have HH := Lib.hid hh
  have HS := Lib.hid hL
  unfold FoundB at HF
  clear H hm hl hx hk hlen hh hL
  go_enter Try.func18, Try.ntmps18
  go_wp2_with fail
  refine HL.out.mono ?_
  rintro e w1 ⟨rfl, rfl⟩
  go_wp2_with fail
  refine HF.out.mono ?_
  rintro e w2 ⟨i, f, rfl, hlb, hf, hb⟩
  obtain rfl := (found_none HS.out hlb hf).1 HH.out
  have HB := Lib.hid hb
  clear HF hlb hf hb HL hr
  go_wp2
  go_ret
  exact ⟨rfl, HB.out⟩
theorem lists_at {mv : Option Nat} (h : w.cell? ⟨p, 0, none⟩ = some (.map mv)) : Calls Try.prog 33 #[.pointer (some ⟨p, 0, none⟩)] w fun e w' => e = .returned (.map mv) ∧ w = w' := by
  go_enter Try.func33, Try.ntmps33
  go_wp2
  go_ret
  exact ⟨rfl, rfl⟩
theorem Slm.look (S : Slm w c k D sl L) (hown : w.ownsMap Try.prog 3 tk b n D) (ho : Ri o) : (Instr.lookup 52 (.map (some b)) (.int .i64 o) false).run Try.prog w = .ok (sl o) w := by
  obtain ⟨v, ps, h3, h4⟩ := hown.lookup law3 Try.underlying52 (zeroB w) (zd := .held (.slice none 0 0)) (zp := []) rfl (key3 ho)
  rw [S.at_ o ho] at h4
  unfold tk at h4
  injection h4 with h4
  injection h4 with h5 _
  injection h5 with h5
  rw [h3, h5]
theorem release_yes {z : Bo} (H : Led w c k p L) (hW : Wl N L) (hN : N ≤ 100000) (ho : Ri o) (hh : hasL o h L = some z) : Calls Try.prog 18 #[.pointer (some ⟨p, 0, none⟩), .int .i64 o, .int .i64 h] w (LdE w c k p (.int .i64 0) (relL o h L)) := by
  have hlL := hW.len
  have hoL := of_len (o := o) (L := L)
  obtain ⟨z1, z2, z3, z4, z5, z6⟩ := hW.has_cnt hh
  have hcx : (z.c = 1 ∧ relL o h L = remL o h L) ∨ (¬ z.c = 1 ∧ relL o h L = putL ⟨o, h, z.m, z.c - 1⟩ L) := by
    unfold relL
    rw [hh]
    by_cases e : z.c = 1
    · exact .inl ⟨e, if_pos e⟩
    · exact .inr ⟨e, if_neg e⟩
  obtain ⟨hcp, mv, hp, hm⟩ := H
  rcases hm with ⟨rfl, rfl⟩ | ⟨b, rfl, hcb, n, D, sl, hown, S⟩
  · cases hh
  have hSo := S.own o ho
  obtain ⟨A, n0, cap, e0, hk⟩ := hSo.1.shape
  have hr := S.look hown ho
  rw [e0] at hr
  have hlen := hk.len
  have hcap := hk.cap
  have hsm := hk.small
  unfold maxLen at hsm
  have HL := Lib.hid (lists_at (cell_of_row w p 0 _ _ _ hp))
  have HF := Lib.hid (find_any A n0 cap _ h _ hk (by omega) (hW.srt.hs o))
  have HH := Lib.hid hh
  have HW := Lib.hid hW
  have HLd : Hid (Led w c k p L) := Lib.hid ⟨hcp, some b, hp, .inr ⟨b, rfl, hcb, n, D, sl, hown, S⟩⟩
  have HP := Lib.hid hp
  have HCB := Lib.hid hcb
  have HOWN := Lib.hid hown
  have HS := Lib.hid S
  have HE0 := Lib.hid e0
  have HX := Lib.hid hcx
  have HO := Lib.hid ho
  unfold FoundB at HF
  generalize relL o h L = L' at *
  clear hcp hp hcb hown S hk hh hW hSo e0 hcx
  go_enter Try.func18, Try.ntmps18
  go_wp2_with fail
  refine HL.out.mono ?_
  rintro e w1 ⟨rfl, rfl⟩
  go_wp2_with fail
  refine HF.out.mono ?_
  rintro e wf ⟨i, f, rfl, hlb, hf, hb⟩
  obtain ⟨rfl, hz, hzh⟩ := (found_none HW.out.srt hlb hf).2 z HH.out
  have hil : i < (ofL o L).length := (List.getElem?_eq_some_iff.1 hz).1
  have HB := Lib.hid hb
  have HZ := Lib.hid hz
  -- everything at the later world
  have hK : Kept c (k + 1) w wf := Kept.ofBelow hb
  have hpl : p < w.heap.size := (Array.getElem?_eq_some_iff.1 HP.out).1
  have hbl := HOWN.out.lt
  have Sf : Slm wf (rc c w.heap.size k) k D sl L := HS.out.kept hK (by omega) (fun g hg => rc_old hg)
  have hpf := (hb.block p hpl).trans HP.out
  have hownf := ownsMap_keep HOWN.out (hb.block b hbl)
  have hSof := Sf.own o HO.out
  have hzz : z = ⟨o, h, z.m, z.c⟩ := by
    obtain ⟨zo, zh, zm, zc⟩ := z
    simp only at z2 z3
    subst z2 z3
    rfl
  obtain ⟨g, cap', ev, _, hgl, cel, fro, hst⟩ := hSof.1.store (i := i) (j := 3) (x := z) (y := ⟨o, h, z.m, z.c - 1⟩) (u := .int .i64 z.c) (u' := .int .i64 (z.c - 1)) hz rfl (by rw [hzz]; rfl)
  rw [HE0.out] at ev
  injection ev with ev1 ev2 ev3
  subst ev1 ev2 ev3
  have hsetL := of_set (b := ⟨o, h, z.m, z.c - 1⟩) HW.out.srt hlb hz hzh
  rw [hsetL] at hst
  have hri1 : ∀ x ∈ putL ⟨o, h, z.m, z.c - 1⟩ L, Ri x.o := fun x hx => by
    rcases mem_put.1 hx with rfl | ⟨h1, _⟩
    · exact HO.out
    · exact HW.out.ri x h1
  have hnz : ofL o (putL ⟨o, h, z.m, z.c - 1⟩ L) ≠ [] := fun e => by
    have : (⟨o, h, z.m, z.c - 1⟩ : Bo) ∈ ofL o (putL ⟨o, h, z.m, z.c - 1⟩ L) := mem_of.2 ⟨mem_put.2 (.inl rfl), rfl⟩
    rw [e] at this
    cases this
  have hgrow : wf.grownBy (wf.setCell ⟨g, i * 4 + 3, none⟩ (.int .i64 (z.c - 1))) (sl o).ownBlock := by
    rw [HE0.out]
    exact run_setAt wf g (i * 4 + 3) _
  have hown1 := hownf.setCell (a := ⟨g, i * 4 + 3, none⟩) (fun e => own_ne_map hownf hSof.1 (by rw [HE0.out]; simp only at e; rw [e]; rfl)) (.int .i64 (z.c - 1))
  have U := Led.step hb (Led.upd (v' := sl o) (by rw [rc_old hpl]; exact HLd.out.1) hpf (by rw [rc_old hbl]; exact HCB.out) hownf Sf HO.out hgrow (World.grownBy.refl _ _) hown1 (by rw [HE0.out] at hst ⊢; exact hst) (.inl rfl) (fun o' hne => of_put_other hne) (by rw [Sf.has o HO.out]; simp only [ne_eq, hnz, not_false_eq_true, iff_true]; intro e; rw [e] at hz; simp at hz) (Sf.at_ o HO.out) (fun o' _ => ⟨rfl, rfl⟩) hri1)
  have HU1 := Lib.hid U.1
  have HU2 := Lib.hid U.2
  have cel1 : (wf.setCell ⟨g, i * 4 + 3, none⟩ (.int .i64 (z.c - 1))).cell? ⟨g, i * 4 + 3, none⟩ = some (.int .i64 (z.c - 1)) := by
    obtain ⟨cs, hcs⟩ := hSof.1.cells_at (g := g) (by rw [HE0.out]; rfl)
    have h1 := cell_of_row wf g (i * 4 + 3) _ _ _ hcs
    have h2 : wf.cell? ⟨g, i * 4 + 3, none⟩ = some (.int .i64 z.c) := cel
    rw [h2] at h1
    rw [cell_of_row _ g (i * 4 + 3) _ _ _ (heap_setCell_same wf g (i * 4 + 3) _ _ (.int .i64 (z.c - 1)) hcs)]
    have h3 : i * 4 + 3 < cs.size := (Array.getElem?_eq_some_iff.1 h1.symm).1
    simp [h3]
  have cel0 : wf.cell? ⟨g, i * 4 + 3, none⟩ = some (.int .i64 z.c) := cel
  have fro0 : wf.frozen? ⟨g, i * 4 + 3, none⟩ = false := fro
  have hi0 : (0 : Int) ≤ (i : Int) := by omega
  have hi1 : (i : Int) < ((ofL o L).length : Int) := by omega
  have hc0 : -9223372036854775808 ≤ z.c - 1 := by omega
  have hc1 : z.c - 1 ≤ 9223372036854775807 := by omega
  have HD : Hid ((ofL o (putL ⟨o, h, z.m, z.c - 1⟩ L)).take i ++ (ofL o (putL ⟨o, h, z.m, z.c - 1⟩ L)).drop (i + 1) = ofL o (remL o h L)) := Lib.hid (by
    rw [← hsetL, List.take_set_of_le (Nat.le_refl _), List.drop_set_of_lt (by omega)]
    exact of_del HW.out.srt hlb hz hzh)
  have HIL : Hid (i < (ofL o (putL ⟨o, h, z.m, z.c - 1⟩ L)).length) := Lib.hid (by rw [← hsetL, List.length_set]; exact hil)
  have HLL : Hid ((putL ⟨o, h, z.m, z.c - 1⟩ L).length ≤ 100000 + 1) := Lib.hid (by have := put_len (b := ⟨o, h, z.m, z.c - 1⟩) (L := L); omega)
  have HRI : Hid (∀ x ∈ remL o h L, Ri x.o) := Lib.hid (fun x hx => HW.out.ri x (mem_rem.1 hx).1)
  clear HF HL hr hlb hf hb hz hzh Sf hpf hownf hSof hst hri1 hnz hgrow hown1 U cel fro hsetL hil hK hpl hbl hzz
  rcases HX.out with ⟨hx1, hx2⟩ | ⟨hx1, hx2⟩
  · have HRM := Lib.hid (remove_any (L' := remL o h L) HU1.out HLL.out HO.out HIL.out HD.out (fun o' hne => by rw [of_rem_ne hne, of_put_other hne]) HRI.out)
    have hq : (z.c - 1 == 0) = true := by simp; omega
    have HX2 := Lib.hid hx2
    unfold LdE at HRM ⊢
    clear hx1 hx2 HX
    go_wp2_with fail
    refine HRM.out.mono ?_
    rintro e w2 ⟨rfl, h1, h2⟩
    have HR := Lib.hid (LdE.later (r := .tuple #[]) (e := .returned (.tuple #[])) HU2.out ⟨rfl, h1, h2⟩)
    clear h1 h2 HRM cel1 cel0 fro0
    go_wp2
    go_ret
    rw [HX2.out]
    exact ⟨rfl, HR.out.2⟩
  · have hq : (z.c - 1 == 0) = false := by simp; omega
    have HX2 := Lib.hid hx2
    unfold LdE
    clear hx1 hx2 HX
    go_wp2
    go_ret
    rw [HX2.out]
    exact ⟨rfl, HU1.out, HU2.out⟩
end
end Go.Proofs.Ytmmlelmkgnhofaa
