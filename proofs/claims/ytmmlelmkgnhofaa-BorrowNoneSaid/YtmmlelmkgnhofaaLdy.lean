/-
  Contracts of the landed ledger's EndObject and EndHolder. Conditions: at most a hundred thousand borrows.
-/
import Derived.Test.YtmmlelmkgnhofaaLdx
namespace Go.Proofs.Ytmmlelmkgnhofaa
open Go.ChangeShapes Go.WideShapes Go.ChangeAt Go.RowKit
open Go.Maps (Keyed int_keyed)
set_option linter.unusedVariables false
set_option linter.unusedSimpArgs false
set_option maxHeartbeats 4000000
set_option maxRecDepth 100000

/-- Nil, or a ledger whose map is nil. -/
def Nq (w : World) (q : Option Addr) : Prop := q = none ∨ ∃ p, q = some ⟨p, 0, none⟩ ∧ w.heap[p]? = some (.cells #[.map none] 54 (0, 0))
section
variable {w w' : World} {c : Nat → Nat} {k p b n N : Nat} {D : DataW Value} {sl : Int → Value} {L L' : List Bo} {o h m : Int} {q : Option Addr}
theorem Nq.ldq (H : Nq w q) : Ldq w (fun _ => 0) 0 q [] := by
  rcases H with rfl | ⟨p, rfl, h⟩
  · exact .inl ⟨rfl, rfl⟩
  · exact .inr ⟨p, rfl, rfl, none, h, .inl ⟨rfl, rfl⟩⟩
theorem Nq.go (H : Nq w q) (hb : Below w.heap.size w w') : Nq w' q := by
  rcases H with rfl | ⟨p, rfl, h⟩
  · exact .inl rfl
  · exact .inr ⟨p, rfl, (hb.block p (Array.getElem?_eq_some_iff.1 h).1).trans h⟩
theorem lists_nil (H : Nq w q) : Calls Try.prog 33 #[.pointer q] w fun e w' => e = .returned (.map none) ∧ w = w' := by
  rcases H with rfl | ⟨p, rfl, h⟩
  · go_enter Try.func33, Try.ntmps33
    go_wp2
    go_ret
    exact ⟨rfl, rfl⟩
  · exact lists_at (cell_of_row w p 0 _ _ _ h)
/-- What EndObject leaves. -/
def EoE (w : World) (c : Nat → Nat) (k p : Nat) (l L' : List Bo) (e : Ending) (w' : World) : Prop := ∃ v, e = .returned v ∧ OwnK bo4 47 w' w.heap.size v l ∧ Led w' (rc c w.heap.size k) k p L' ∧ Kept c k w w'
theorem endObject_nil (H : Nq w q) (ho : Ri o) : Calls Try.prog 23 #[.pointer q, .int .i64 o] w (MkB w []) := by
  have HO := Lib.hid (of_any (o := o) H.ldq ho (by simp))
  have HN := Lib.hid H
  have hdn := fun (W : World) ty => Maps.drop_nil (w := W) law3 Try.underlying52 (key3 ho) ty
  unfold MkB at HO ⊢
  clear H
  go_enter Try.func23, Try.ntmps23
  go_wp2_with fail
  refine HO.out.mono ?_
  rintro e w1 ⟨v, rfl, ho1, hb1⟩
  have HL := Lib.hid (lists_nil (HN.out.go hb1))
  have HO1 := Lib.hid ho1
  have HB1 := Lib.hid hb1
  clear ho1 hb1 HO
  go_wp2_with fail
  refine HL.out.mono ?_
  rintro e w2 ⟨rfl, rfl⟩
  have hdn1 := hdn w1
  clear HL hdn
  go_wp2
  go_ret
  exact ⟨_, rfl, HO1.out, HB1.out⟩
theorem endObject_any (H : Led w c k p L) (hn : L.length ≤ 100000) (ho : Ri o) (hri : ∀ x ∈ L, Ri x.o) : Calls Try.prog 23 #[.pointer (some ⟨p, 0, none⟩), .int .i64 o] w (EoE w c k p (ofL o L) (endO o L)) := by
  have HO := Lib.hid (of_any (o := o) H.toq ho (by omega))
  have HLd := Lib.hid H
  have HRI := Lib.hid hri
  have HR := Lib.hid ho
  unfold MkB at HO
  unfold EoE
  clear H hri
  go_enter Try.func23, Try.ntmps23
  go_wp2_with fail
  refine HO.out.mono ?_
  rintro e wf ⟨v, rfl, ho1, hb1⟩
  have hLf := HLd.out.later hb1
  have HLF := Lib.hid hLf
  obtain ⟨hcp, mv, hp, hm⟩ := hLf
  have HL := Lib.hid (lists_at (cell_of_row wf p 0 _ _ _ hp))
  have HO1 := Lib.hid ho1
  have HB1 := Lib.hid hb1
  clear ho1 hb1 HO
  go_wp2_with fail
  refine HL.out.mono ?_
  rintro e w2 ⟨rfl, rfl⟩
  clear HL
  rcases hm with ⟨rfl, rfl⟩ | ⟨b, rfl, hcb, n, D, sl, hown, S⟩
  · have hdn1 := fun ty => Maps.drop_nil (w := wf) law3 Try.underlying52 (key3 ho) ty
    clear hcp hp
    go_wp2
    go_ret
    exact ⟨_, rfl, HO1.out, HLF.out, Kept.ofBelow HB1.out⟩
  · have HP := Lib.hid hp
    have HCP := Lib.hid hcp
    have HCB := Lib.hid hcb
    have HS := Lib.hid S
    have HOW := Lib.hid hown
    clear hp hcp hcb S ho
    go_wp2_with (first | (at_delete; refine wpList_delete_own _ rfl _ _ 52 3 rfl 26 law3 Try.underlying52 _ b _ D rfl hown _ _ rfl (key3 HR.out) ?_; intro w2 hown2 hturn2))
    go_ret
    have U := Led.step (L' := endO o L) HB1.out (Led.upd HCP.out HP.out HCB.out HOW.out HS.out HR.out (World.grownBy.refl _ _) hturn2.grown hown2 (v' := .slice none 0 0) (by rw [of_endO_same]; exact OwnK.nil _ _ _ _) (.inr fun g hg => by cases hg) (fun o' hne => of_endO_ne hne) (by rw [Maps.has_del_same, of_endO_same]; simp) (Maps.atKey_del_same _) (fun o' hne => ⟨Maps.has_del_other (lit_ne hne), Maps.atKey_del_other (lit_ne hne) _⟩) (fun x hx => HRI.out x (List.mem_filter.1 hx).1))
    refine ⟨_, rfl, OwnK.kept HO1.out hturn2.grown (.inr fun e => ?_), U.1, U.2⟩
    obtain ⟨cs, hcs⟩ := HO1.out.cells_at e
    obtain ⟨es, clock, h1, _⟩ := HOW.out
    rw [hcs] at h1
    cases h1
/-- Without the borrows of a holder, of some objects. -/
def rems (h : Int) (os : List Int) (L : List Bo) : List Bo := L.filter fun x => decide (¬ (x.h = h ∧ x.o ∈ os))
theorem rems_nil : rems h [] L = L := List.filter_eq_self.2 fun x _ => by simp
theorem rems_step {os : List Int} : remL o h (rems h os L) = rems h (os ++ [o]) L := by
  unfold remL rems
  rw [List.filter_filter]
  refine List.filter_congr fun x _ => ?_
  rw [← Bool.decide_and]
  refine decide_eq_decide.2 ?_
  rw [List.mem_append, List.mem_singleton]
  constructor
  · rintro ⟨h1, h2⟩ ⟨h3, h4 | h4⟩
    · exact h2 ⟨h3, h4⟩
    · exact h1 ⟨h4, h3⟩
  · intro h1
    exact ⟨fun h2 => h1 ⟨h2.2, .inr h2.1⟩, fun h2 => h1 ⟨h2.1, .inl h2.2⟩⟩
theorem rems_end {os : List Int} (hri : ∀ x ∈ L, Ri x.o) (hm : ∀ o, o ∈ os ↔ Ri o ∧ (hasL o h L).isSome = true) : rems h os L = endH h L := by
  unfold rems endH
  refine List.filter_congr fun x hx => decide_eq_decide.2 ⟨fun h1 h2 => h1 ⟨h2, (hm x.o).2 ⟨hri x hx, ?_⟩⟩, fun h1 h2 => h1 h2.1⟩
  cases hf : hasL x.o h L with
  | none => exact absurd ⟨rfl, h2⟩ (has_none hf x hx)
  | some y => rfl
theorem rems_has {os : List Int} (hno : o ∉ os) : hasL o h (rems h os L) = hasL o h L := by
  unfold hasL rems
  induction L with
  | nil => rfl
  | cons y L ih =>
    by_cases e : y.o = o ∧ y.h = h
    · rw [List.filter_cons, if_pos (by simp only [decide_eq_true_eq]; intro h2; exact hno (e.1 ▸ h2.2)), List.find?_cons_of_pos (by simpa using e), List.find?_cons_of_pos (by simpa using e)]
    · rw [List.find?_cons_of_neg (by simpa using e), List.filter_cons]
      split
      · rw [List.find?_cons_of_neg (by simpa using e), ih]
      · exact ih
theorem Led.recol {c' : Nat → Nat} (H : Led w c k p L) (hc : ∀ g, c g = k → c' g = k) : Led w c' k p L := by
  obtain ⟨h1, mv, h2, h3⟩ := H
  refine ⟨hc _ h1, mv, h2, ?_⟩
  rcases h3 with h3 | ⟨b, e, h4, n, D, sl, h5, S⟩
  · exact .inl h3
  · exact .inr ⟨b, e, hc _ h4, n, D, sl, h5, S.ri, S.has, S.at_, fun o ho => ⟨(S.own o ho).1, fun g hg => hc _ ((S.own o ho).2 g hg)⟩, S.apart⟩
theorem endHolder_nil (H : Nq w q) : Calls Try.prog 20 #[.pointer q, .int .i64 h] w fun e w' => e = .returned (.int .i64 0) ∧ Below w.heap.size w w' := by
  have HB := Lib.hid (borrowed_any (h := h) H.ldq List.Pairwise.nil (by simp))
  unfold BdE at HB
  clear H
  go_enter Try.func20, Try.ntmps20
  go_wp2_with fail
  refine HB.out.mono ?_
  rintro e w1 ⟨v, os, rfl, ho, hnd, hm, hb⟩
  obtain rfl : os = [] := List.eq_nil_iff_forall_not_mem.2 fun x hx => by
    have := ((hm x).1 hx).2
    cases this
  obtain ⟨A, n, cc, rfl, hx⟩ := ho.shape
  obtain rfl : n = 0 := hx.len.symm
  have HW := Lib.hid hb
  clear HB ho hnd hm hb hx
  go_wp2
  refine wp_loop_rounds 1 ?_
  rw [rounds_succ]
  go_wp2
  go_ret
  exact ⟨rfl, HW.out⟩
theorem endHolder_any (H : Led w c k p L) (hW : Wl N L) (hN : N ≤ 100000) : Calls Try.prog 20 #[.pointer (some ⟨p, 0, none⟩), .int .i64 h] w (LdE w c k p (.int .i64 (heldN h L)) (endH h L)) := by
  have hlL := hW.len
  have HB := Lib.hid (borrowed_any (h := h) H.toq hW.srt (by omega))
  have HLd := Lib.hid H
  have HW := Lib.hid hW
  unfold BdE at HB
  unfold LdE
  clear H hW
  go_enter Try.func20, Try.ntmps20
  go_wp2_with fail
  refine HB.out.mono ?_
  rintro e w1 ⟨v, os, rfl, ho, hnd, hm, hb⟩
  obtain ⟨A, n, cc, rfl, hx⟩ := ho.shape
  have hcap := hx.cap
  have hsm := hx.small
  unfold maxLen at hsm
  have HLN : Hid (n = heldN h L ∧ n = os.length) := Lib.hid ⟨by rw [← os_len HW.out.srt HW.out.ri hnd hm]; exact hx.len.symm, hx.len.symm⟩
  have HEND := Lib.hid (rems_end HW.out.ri hm)
  have HOS := Lib.hid ho
  have HBE := Lib.hid hb
  have HND := Lib.hid hnd
  have HME := Lib.hid hm
  -- the row of objects gets a colour of its own
  have HL1 : Hid (Led w1 (rc (rc c w.heap.size (k + 1)) w1.heap.size k) k p (rems h [] L)) := Lib.hid (by
    rw [rems_nil]
    exact HLd.out.kept (j := k + 1) (Kept.ofBelow hb) (by omega) (fun g hg => by rw [rc_old (Nat.lt_of_lt_of_le hg hb.size), rc_old hg]))
  have hnL : n ≤ 100000 := by
    have h1 : (L.filter fun x => decide (x.h = h)).length ≤ L.length := List.length_filter_le _ _
    have h2 := HLN.out.1
    unfold heldN at h2
    omega
  clear HB ho hnd hm hb hx
  go_wp2
  go_loopw [15] (fun iv wr => ∃ i : Nat, i ≤ n ∧ iv = .int .i64 i ∧ Hid (Led wr (rc (rc c w.heap.size (k + 1)) w1.heap.size k) k p (rems h (os.take i) L) ∧ Kept (rc c w.heap.size (k + 1)) k w1 wr)) (fun iv _ => n - (intOf iv).toNat)
  case atStart => exact ⟨0, Nat.zero_le _, rfl, Lib.hid ⟨HL1.out, Kept.refl⟩⟩
  case round =>
    obtain ⟨i, hi, rfl, hh⟩ := hrel
    obtain ⟨hLr, hKr⟩ := hh.out
    by_cases hin : i < n
    · have hosr : OwnK int1 3 wr w.heap.size (.slice A n cc) os := HOS.out.keptC hKr (fun g hg => by
        have h1 := (HOS.out.ge hg)
        rw [rc_new h1.1]
        omega)
      obtain ⟨A', n', cc', e', hkr⟩ := hosr.shape
      cases e'
      obtain ⟨ob, oo, x, hx, rfl, hob, hcell⟩ := hkr.at_ hin
      have e0 : wr.cell? ⟨ob, oo + i, none⟩ = some (.int .i64 x) := by
        have := hcell 0 (.int .i64 x) rfl
        have e1 : oo + i * int1.k + 0 = oo + i := by show oo + i * 1 + 0 = oo + i; omega
        rw [e1] at this
        exact this
      have hil : i < os.length := by have := HLN.out.2; omega
      have hxo : os[i] = x := by rw [List.getElem?_eq_getElem hil] at hx; exact Option.some.inj hx
      have hmx := (HME.out x).1 (List.mem_of_getElem? hx)
      obtain ⟨z, hz⟩ := Option.isSome_iff_exists.1 hmx.2
      have hno : x ∉ os.take i := fun hmem => by
        obtain ⟨j, hj⟩ := List.getElem?_of_mem hmem
        have hjl : j < (os.take i).length := (List.getElem?_eq_some_iff.1 hj).1
        rw [List.length_take] at hjl
        rw [List.getElem?_take, if_pos (by omega)] at hj
        have h1 := List.pairwise_iff_getElem.1 HND.out j i (by omega) hil (by omega)
        rw [List.getElem?_eq_getElem (by omega)] at hj
        exact h1 ((Option.some.inj hj).trans hxo.symm)
      have hzr : hasL x h (rems h (os.take i) L) = some z := by rw [rems_has hno]; exact hz
      have hWr : Wl N (rems h (os.take i) L) := HW.out.filter _
      have hlr := hWr.len
      have HLR := Lib.hid hLr
      obtain ⟨hcp, mv, hp, hm⟩ := hLr
      rcases hm with ⟨rfl, hnil⟩ | ⟨b, rfl, hcb, nm, D, sl, hown, S⟩
      · rw [hnil] at hzr
        cases hzr
      have hSo := S.own x hmx.1
      obtain ⟨A2, n2, cap2, es, hk2⟩ := hSo.1.shape
      have hr := S.look hown hmx.1
      rw [es] at hr
      have hlen := hk2.len
      have hoL := of_len (o := x) (L := rems h (os.take i) L)
      have HF := Lib.hid (find_any A2 n2 cap2 _ h _ hk2 (by omega) (hWr.srt.hs x))
      have c0 := cell_of_row wr p 0 _ _ _ hp
      have HZR := Lib.hid hzr
      have HWR := Lib.hid hWr
      have HXR := Lib.hid hmx.1
      have HKR := Lib.hid hKr
      have hi0 : (0 : Int) ≤ (i : Int) := by omega
      have hi1 : (i : Int) < (n : Int) := by omega
      have hd : decide ((i : Int) < (n : Int)) = true := decide_eq_true hi1
      have HTK : Hid (rems h (os.take (i + 1)) L = remL x h (rems h (os.take i) L)) := Lib.hid (by rw [rems_step, List.take_add_one, hx]; rfl)
      unfold FoundB at HF
      clear hosr hkr hx hob hcell hil hxo hmx hz hno hzr hWr hcp hp hcb hown S hSo es hk2 hlen hoL hh hKr
      go_wp2_with fail
      refine HF.out.mono ?_
      rintro e wf ⟨i2, f, rfl, hlb, hf, hb⟩
      obtain ⟨rfl, hz2, hzh⟩ := (found_none HWR.out.srt hlb hf).2 z HZR.out
      have hil2 : i2 < (ofL x (rems h (os.take i) L)).length := (List.getElem?_eq_some_iff.1 hz2).1
      have hLf := HLR.out.kept (j := k + 1) (Kept.ofBelow hb) (by omega) (fun _ _ => rfl)
      have HRM := Lib.hid (remove_any (L' := remL x h (rems h (os.take i) L)) hLf (by omega) HXR.out hil2 (of_del HWR.out.srt hlb hz2 hzh) (fun o' hne => of_rem_ne hne) (fun y hy => HWR.out.ri y (mem_rem.1 hy).1))
      have HKF : Hid (Kept (rc c w.heap.size (k + 1)) k w1 wf) := Lib.hid (HKR.out.trans (Kept.ofBelow hb))
      unfold LdE at HRM
      clear hlb hf hb hz2 hzh hil2 hLf HF hr c0 e0 HKR
      go_wp2_with fail
      refine HRM.out.mono ?_
      rintro e w2 ⟨rfl, h1, h2⟩
      rw [rc_rc HKF.out.size] at h1
      have H1 := Lib.hid h1
      have H2 := Lib.hid (HKF.out.then (fun g hg => rc_old hg) h2)
      clear h1 h2 HRM
      go_wp2
      go_roundw
      case rel => exact ⟨i + 1, by omega, by go_num, Lib.hid ⟨by rw [HTK.out]; exact H1.out, H2.out⟩⟩
      case measure => simp [intOf]; omega
    · obtain rfl : i = n := by omega
      have HE : Hid (rems h (os.take i) L = endH h L) := Lib.hid (by rw [List.take_of_length_le (by have := HLN.out.2; omega)]; exact HEND.out)
      have HLR := Lib.hid hLr
      have HKR := Lib.hid hKr
      clear hh hLr hKr
      have hd : decide ((i : Int) < (i : Int)) = false := by simp
      go_wp2
      go_ret
      rw [HE.out] at HLR
      refine ⟨by rw [← HLN.out.1]; rfl, HLR.out.recol fun g hg => ?_, ?_⟩
      · by_cases h1 : g < w.heap.size
        · rw [rc_old h1]
          rw [rc_old (Nat.lt_of_lt_of_le h1 HBE.out.size), rc_old h1] at hg
          exact hg
        · exact rc_new (by omega)
      · exact (Kept.ofBelow HBE.out).then (fun g hg => rc_old hg) HKR.out
end
end Go.Proofs.Ytmmlelmkgnhofaa
