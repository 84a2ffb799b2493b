/-
  Contracts of the landed ledger's borrowed and Held: a range over the map, in whatever order. Conditions: at most a million borrows.
-/
import Derived.Test.YtmmlelmkgnhofaaLdr
namespace Go.Proofs.Ytmmlelmkgnhofaa
open Go.ChangeShapes Go.WideShapes Go.ChangeAt Go.RowKit
open Go.Maps (Keyed int_keyed)
set_option linter.unusedVariables false
set_option linter.unusedSimpArgs false
set_option maxHeartbeats 4000000
set_option maxRecDepth 100000

theorem wpList_next_sl {P : Program} {w : World} {ops : Array Oper} {rest : List Oper} {o : Oper} {a : Act} {Q : Exit → Act → World → Prop} (hg : o.guard = none) (it : Operand) (hop : o.op = Op.next it false) (t : TypeId) (K : Keyed P t) (ht : P.underlying t = some (.int .i64))
    (b r n : Nat) (D : DataW Value) (left : Lit → Bool) (cnt : Nat) (hsh : ∀ x v, Ri x → D.atKey (.int .i64 x) (.held (.slice none 0 0)) = .held v → ∃ A n c, v = .slice A n c)
    (hit : a.eval it = .pointer (some ⟨r, 0, none⟩)) (h : w.ranges P t tk b r n D left cnt)
    (hDone : cnt = 0 → (∀ kl, left kl = false) → wpList P ops Q rest (a.put o.dst (.tuple #[.bool false])) w)
    (hMore : ∀ (x : Int) (A : Option Addr) (n' c : Nat) (w' : World) (cnt' : Nat), Ri x → left (.int .i64 x) = true → (∀ zd, D.atKey (.int .i64 x) zd = .held (.slice A n' c)) → w'.ranges P t tk b r n D (fun z => left z && !z.sameKey (.int .i64 x)) cnt' → cnt' < cnt →
      w.grownBy w' (some r) → w'.heap.size = w.heap.size → (Instr.entry (.pointer (some ⟨r, 0, none⟩))).run P w' = .ok (.tuple #[.int .i64 x, .slice A n' c]) w' → wpList P ops Q rest (a.put o.dst (.tuple #[.bool true, .int .i64 x, .slice A n' c])) w') :
    wpList P ops Q (o :: rest) a w := by
  refine wpList_plain hg fun K' hK' => ?_
  unfold Oper.wp
  rcases h.next K o.type with ⟨h0, hl, hrun⟩ | ⟨key, v, kl, y, w', cnt', hkey, hlk, hv, hat, hrun, hrg, hlt, hgr, hsz, hen⟩
  · simp [execOp, hop, hit, hrun, Result.andThen]
    exact hK' _ _ (hDone h0 hl)
  · obtain ⟨x, rfl, rfl, hx⟩ := Maps.keyOf_int_inv ht hkey
    have hy : y.1 = .held v := by
      unfold tk at hv
      obtain rfl := Option.some.inj hv
      rfl
    obtain ⟨A, n', c, rfl⟩ := hsh x v hx (by rw [hat, hy])
    simp [execOp, hop, hit, hrun, Result.andThen]
    exact hK' _ _ (hMore x A n' c w' cnt' hx hlk (fun zd => by rw [hat, hy]) hrg hlt hgr hsz hen)
theorem Slm.shape {w : World} {c : Nat → Nat} {k : Nat} {D : DataW Value} {sl : Int → Value} {L : List Bo} (h : Slm w c k D sl L) : ∀ x v, Ri x → D.atKey (.int .i64 x) (.held (.slice none 0 0)) = .held v → ∃ A n c, v = .slice A n c := fun x v hx hv => by
  rw [h.at_ x hx] at hv
  injection hv with hv
  obtain ⟨A, n, c, e, _⟩ := (h.own x hx).1.shape
  exact ⟨A, n, c, by rw [← hv, e]⟩
/-- What the rounds have collected. -/
def Clc (D : DataW Value) (h : Int) (L : List Bo) (left : Lit → Bool) (os : List Int) : Prop := os.Nodup ∧ ∀ x, x ∈ os ↔ (Ri x ∧ Maps.has D (.int .i64 x) = true ∧ left (.int .i64 x) = false ∧ (hasL x h L).isSome = true)
section
variable {D : DataW Value} {h : Int} {L : List Bo} {left : Lit → Bool} {os : List Int} {x : Int}
theorem Clc.start : Clc D h L (Maps.has D) [] := ⟨List.nodup_nil, fun x => by cases Maps.has D (.int .i64 x) <;> simp⟩
theorem lit_same {a b : Int} : (Lit.int .i64 a).sameKey (.int .i64 b) = decide (a = b) := by
  by_cases e : a = b <;> simp [Lit.sameKey, e]
theorem Clc.no (H : Clc D h L left os) (hx : hasL x h L = none) : Clc D h L (fun z => left z && !z.sameKey (.int .i64 x)) os := by
  refine ⟨H.1, fun y => ?_⟩
  rw [H.2 y]
  simp only [lit_same]
  by_cases e : y = x
  · subst e
    simp [hx]
  · simp [e]
theorem Clc.yes (H : Clc D h L left os) (hr : Ri x) (hl : left (.int .i64 x) = true) (hD : Maps.has D (.int .i64 x) = true) (hx : (hasL x h L).isSome = true) : Clc D h L (fun z => left z && !z.sameKey (.int .i64 x)) (os ++ [x]) := by
  have hnew : x ∉ os := fun hm => by
    have := ((H.2 x).1 hm).2.2.1
    rw [hl] at this
    cases this
  refine ⟨List.nodup_append.2 ⟨H.1, by simp, fun a ha b hb => by simp at hb; subst hb; exact fun e => hnew (e ▸ ha)⟩, fun y => ?_⟩
  rw [List.mem_append, List.mem_singleton, H.2 y]
  simp only [lit_same]
  by_cases e : y = x
  · subst e
    simp [hr, hD, hx]
  · simp [e]
end
/-- The objects that a holder has borrowed. -/
def BdE (w : World) (h : Int) (L : List Bo) (e : Ending) (w' : World) : Prop := ∃ v os, e = .returned v ∧ OwnK int1 3 w' w.heap.size v os ∧ os.Nodup ∧ (∀ o, o ∈ os ↔ Ri o ∧ (hasL o h L).isSome = true) ∧ Below w.heap.size w w'
theorem infoI : (Try.prog.info? 3).map (fun i => (i.zero, i.size, i.bytes)) = some (some (.int .i64 0), 1, 8) := by kernel_rfl
theorem new_int (w : World) (x : Int) : Kws int1 (w.alloc (.cells #[.int .i64 x] 3)) (w.heap.size + 1) (some ⟨w.heap.size, 0, none⟩) 1 1 [x] := Kws.new w [x] _ _ 1 rfl rfl (by unfold maxLen; omega)
section
variable {w : World} {c : Nat → Nat} {k : Nat} {q : Option Addr} {L : List Bo} {h : Int}
theorem hasL_nil {o h : Int} : hasL o h [] = none := rfl
theorem len_sub : ∀ {os K : List Int}, os.Nodup → (∀ x ∈ os, x ∈ K) → os.length ≤ K.length
  | [], _, _, _ => Nat.zero_le _
  | x :: os, K, hn, hs => by
    obtain ⟨h1, h2⟩ := List.nodup_cons.1 hn
    have hx := hs x (by simp)
    have := len_sub (os := os) (K := K.erase x) h2 (fun y hy => (List.mem_erase_of_ne (fun e => h1 (by rw [← e]; exact hy))).2 (hs y (by simp [hy])))
    rw [List.length_erase_of_mem hx] at this
    have : 0 < K.length := List.length_pos_of_mem hx
    simp only [List.length_cons]
    omega
theorem os_le {L : List Bo} {h : Int} {os : List Int} (hn : os.Nodup) (hm : ∀ o ∈ os, (hasL o h L).isSome = true) : os.length ≤ L.length := by
  have e : (L.map Bo.o).length = L.length := List.length_map _
  rw [← e]
  refine len_sub hn fun x hx => ?_
  obtain ⟨z, hz⟩ := Option.isSome_iff_exists.1 (hm x hx)
  obtain ⟨h3, h4, h5⟩ := has_some hz
  exact List.mem_map.2 ⟨z, h3, h4⟩
/-- The number of objects: the row of them is as long. -/
theorem os_len {L : List Bo} {h : Int} {os : List Int} (hL : Srt L) (hri : ∀ x ∈ L, Ri x.o) (hn : os.Nodup) (hm : ∀ o, o ∈ os ↔ Ri o ∧ (hasL o h L).isSome = true) : os.length = heldN h L := by
  unfold heldN
  rw [← List.length_map (f := Bo.o)]
  refine List.Perm.length_eq ((List.perm_ext_iff_of_nodup hn ?_).2 fun x => ?_)
  · refine List.pairwise_map.2 ((hL.filter _).imp_of_mem fun {x y} hx hy hlt e => ?_)
    have h1 := (List.mem_filter.1 hx).2
    have h2 := (List.mem_filter.1 hy).2
    simp only [decide_eq_true_eq] at h1 h2
    exact hlt.ne ⟨e, by omega⟩
  · rw [hm x, List.mem_map]
    constructor
    · rintro ⟨_, h2⟩
      obtain ⟨z, hz⟩ := Option.isSome_iff_exists.1 h2
      obtain ⟨h3, h4, h5⟩ := has_some hz
      exact ⟨z, List.mem_filter.2 ⟨h3, by simpa using h5⟩, h4⟩
    · rintro ⟨z, hz, rfl⟩
      obtain ⟨h3, h4⟩ := List.mem_filter.1 hz
      refine ⟨hri z h3, ?_⟩
      cases hf : hasL z.o h L with
      | none => exact absurd ⟨rfl, by simpa using h4⟩ (has_none hf z h3)
      | some y => rfl
theorem borrowed_any (H : Ldq w c k q L) (hL : Srt L) (hn : L.length ≤ 1000000) : Calls Try.prog 40 #[.pointer q, .int .i64 h] w (BdE w h L) := by
  obtain ⟨i0, hi0, hz0, hz1, hz2⟩ := info_parts infoI
  obtain ⟨mv, hm, hl⟩ := lists_any H
  have HL := Lib.hid (hl w (fun _ _ h => h))
  unfold BdE
  clear hl
  rcases hm with ⟨rfl, rfl⟩ | ⟨b, rfl, hcb, n, D, sl, hown, hS⟩
  · clear H hL
    have hrg := run_range_nilMap (P := Try.prog) w 52 3 26 Try.underlying52
    have hnx : ∀ ty, (Instr.next (.pointer (some ⟨w.heap.size, 0, none⟩)) false ty).run Try.prog (w.alloc (.mapIter none 0 #[] 0)) = _ := fun ty => run_next_nilMap _ ty 0 0 #[]
    go_enter Try.func40, Try.ntmps40
    go_wp2_with fail
    refine HL.out.mono ?_
    rintro e w1 ⟨rfl, rfl⟩
    go_wp2
    refine wp_loop_rounds 1 ?_
    rw [rounds_succ]
    go_wp2
    go_ret
    exact ⟨_, [], rfl, OwnK.nil _ _ _ _, List.nodup_nil, fun o => by simp [hasL_nil], (Below.refl _ _).alloc (Nat.le_refl _) _⟩
  · have HS := Lib.hid hS
    have HM := Lib.hid H
    have HSR := Lib.hid hL
    have HB : Hid (b < w.heap.size) := Lib.hid hown.lt
    have HOW := Lib.hid hown
    have HLN := Lib.hid hn
    clear H hL hS hcb hn
    go_enter Try.func40, Try.ntmps40
    go_wp2_with fail
    refine HL.out.mono ?_
    rintro e w1 ⟨rfl, rfl⟩
    go_wp2_with (first | (at_range; refine wpList_range_own _ rfl _ 52 rfl 3 26 law3 Try.underlying52 _ b n D rfl hown ?_; intro w0 hrg0 hg0 hs0) | go_in)
    go_frame
    go_loopw [5] (fun v wr => ∃ left cnt os, Hid (wr.ranges Try.prog 3 tk b w.heap.size n D left cnt ∧ Clc D h L left os ∧ OwnK int1 3 wr w.heap.size v os ∧ Below w.heap.size w wr)) (fun _ wr => wr.rangeLeft b w.heap.size)
    case atStart =>
      exact ⟨_, _, [], Lib.hid ⟨hrg0, Clc.start, OwnK.nil _ _ _ _, ⟨hg0.os, hg0.tape, hg0.output, hg0.size, fun g hg => hg0.block g hg (by simp)⟩⟩⟩
    case round =>
      obtain ⟨left, cnt, os, hh⟩ := hrel
      obtain ⟨hrg, hcl, hos, hbl⟩ := hh.out
      obtain ⟨A1, n1, c1, rfl, hk1⟩ := hos.shape
      have HCL := Lib.hid hcl
      have HOS := Lib.hid hos
      have HBL := Lib.hid hbl
      have HRG := Lib.hid hrg
      clear hh hcl hos hbl hk1
      go_wp2_with (first | (at_next; refine wpList_next_sl rfl _ rfl 3 law3 Try.underlying3 b w.heap.size n D left cnt HS.out.shape rfl hrg ?_ ?_) | go_in)
      · intro _ hl0
        go_wp2
        go_ret
        refine ⟨_, os, rfl, HOS.out, HCL.out.1, fun x => ?_, HBL.out⟩
        rw [HCL.out.2 x, hl0]
        refine ⟨fun h => ⟨h.1, h.2.2.2⟩, fun h => ⟨h.1, (HS.out.has x h.1).2 fun e => ?_, rfl, h.2⟩⟩
        obtain ⟨z, hz⟩ := Option.isSome_iff_exists.1 h.2
        obtain ⟨h3, h4, _⟩ := has_some hz
        have : z ∈ ofL x L := mem_of.2 ⟨h3, h4⟩
        rw [e] at this
        cases this
      · intro x A n' c' w1 cnt1 hx hlk hat hrg1 hlt hg1 hs1 hen
        have hsl : sl x = .slice A n' c' := by
          have h1 := HS.out.at_ x hx
          rw [hat] at h1
          injection h1 with h1
          exact h1.symm
        have hown1 := (HS.out.own x hx).1
        rw [hsl] at hown1
        obtain ⟨A2, n2, c2, e2, hk⟩ := hown1.shape
        cases e2
        have hB1 : Below w.heap.size w w1 := HBL.out.grown hg1 HBL.out.size (fun g e => by cases e; exact Nat.le_refl _)
        have hk1 := hk.go hB1
        have hlen := hk.len
        have HF := Lib.hid (find_any A n' c' _ h w1 hk1 (by have := of_len (o := x) (L := L); have := HLN.out; omega) (HSR.out.hs x))
        have hOS1 : OwnK int1 3 w1 w.heap.size (.slice A1 n1 c1) os := OwnK.kept HOS.out hg1 (.inr fun e => by
          obtain ⟨cs, hcs⟩ := HOS.out.cells_at e
          obtain ⟨es, clock, since, seen, c0, _, _, _, _, hr, _⟩ := HRG.out
          rw [hr] at hcs
          cases hcs)
        have HOS1 := Lib.hid hOS1
        have HRG1 := Lib.hid hrg1
        have HB1 := Lib.hid hB1
        have HK1 := Lib.hid hk1
        have HHX := Lib.hid (Maps.has_true_of_atKey hat)
        have HLT := Lib.hid hlt
        have HLK := Lib.hid hlk
        have HX := Lib.hid hx
        unfold FoundB at HF
        clear hsl hown1 hk hB1 hk1 hlen hOS1 hrg1 hlt hlk hx hat hg1 hs1 HOS HBL
        go_wp2_with fail
        refine HF.out.mono ?_
        rintro e w2 ⟨i, f, rfl, hlb, hf, hb⟩
        have HHA := Lib.hid (has_at HSR.out hlb)
        have HRG2 := Lib.hid (HRG1.out.kept (grown_below hb none) (by simp) (by simp))
        have HOS2 := Lib.hid (HOS1.out.below hb)
        have HB2 := Lib.hid (Below.then HB1.out hb (Nat.le_refl _))
        clear HF hb hlb HRG1 HOS1 HB1 hen
        cases f with
        | false =>
          have HN : Hid (hasL x h L = none) := Lib.hid (by
            rw [HHA.out]
            cases hz : (ofL x L)[i]? with
            | none => rfl
            | some z =>
              rw [Option.filter_some, if_neg]
              intro e
              have := hf.2 ⟨z, hz, by simpa using e⟩
              cases this)
          clear hf
          go_wp2
          go_roundw
          case rel => exact ⟨_, cnt1, os, Lib.hid ⟨HRG2.out, HCL.out.no HN.out, HOS2.out, HB2.out⟩⟩
          case measure => rw [HRG2.out.left_eq, HRG.out.left_eq]; exact HLT.out
        | true =>
          have HN : Hid ((hasL x h L).isSome = true) := Lib.hid (by
            obtain ⟨z, hz, hzp⟩ := hf.1 rfl
            rw [HHA.out, hz, Option.filter_some, if_pos (by simpa using hzp)]
            rfl)
          have HOL : Hid (os.length ≤ L.length) := Lib.hid (os_le HCL.out.1 (fun z hz => ((HCL.out.2 z).1 hz).2.2.2))
          clear hf
          have HNW := Lib.hid (new_int w2 x)
          go_wp2_with (at_builtin; go_must (refine wpList_appK _ rfl (.tmp 25) (.tmp 27) 65 rfl Try.underlying65 hi0 hz0 rfl hz1 (by omega) (HOS2.out.alloc _) rfl HNW.out rfl (by have := HOL.out; have := HLN.out; omega) (by have := HB2.out.size; simp; omega) ?_); intro v3 w3 ho3 hb3 hg3; obtain ⟨A3, n3, c3, rfl, hx3⟩ := ho3.shape)
          have HOS3 := Lib.hid ho3
          have HRG3 := Lib.hid ((HRG2.out.alloc (.cells #[.int .i64 x] 3)).kept hg3.1 (fun e => by
            obtain ⟨cs, hcs⟩ := (HOS2.out.alloc (.cells #[.int .i64 x] 3)).cells_at e.symm
            obtain ⟨es, clock, h1, _⟩ := (HRG2.out.alloc (.cells #[.int .i64 x] 3)).owns
            rw [h1] at hcs
            cases hcs) (fun e => by
            obtain ⟨cs, hcs⟩ := (HOS2.out.alloc (.cells #[.int .i64 x] 3)).cells_at e.symm
            obtain ⟨es, clock, since, seen, c0, _, _, _, _, hr, _⟩ := HRG2.out.alloc (.cells #[.int .i64 x] 3)
            rw [hr] at hcs
            cases hcs))
          have HB3 := Lib.hid ((HB2.out.alloc HB2.out.size (.cells #[.int .i64 x] 3)).trans hb3)
          clear ho3 hb3 hg3 hx3 HNW
          go_wp2
          go_roundw
          case rel => exact ⟨_, cnt1, os ++ [x], Lib.hid ⟨HRG3.out, HCL.out.yes HX.out HLK.out HHX.out HN.out, HOS3.out, HB3.out⟩⟩
          case measure => rw [HRG3.out.left_eq, HRG.out.left_eq]; exact HLT.out
theorem held_any (H : Ldq w c k q L) (hL : Srt L) (hri : ∀ x ∈ L, Ri x.o) (hn : L.length ≤ 1000000) : Calls Try.prog 28 #[.pointer q, .int .i64 h] w fun e w' => e = .returned (.int .i64 (heldN h L)) ∧ Below w.heap.size w w' := by
  have HB := Lib.hid (borrowed_any (h := h) H hL hn)
  unfold BdE at HB
  have HS := Lib.hid hL
  have HR := Lib.hid hri
  clear H hL hri
  go_enter Try.func28, Try.ntmps28
  go_wp2_with fail
  refine HB.out.mono ?_
  rintro e w1 ⟨v, os, rfl, ho, hnd, hm, hb⟩
  obtain ⟨A, n, c, rfl, hx⟩ := ho.shape
  have HN : Hid (n = heldN h L) := Lib.hid (by rw [← os_len HS.out HR.out hnd hm]; exact hx.len.symm)
  have HW := Lib.hid hb
  clear HB ho hnd hm hb hx
  go_wp2
  go_ret
  exact ⟨by rw [← HN.out]; rfl, HW.out⟩
end
end Go.Proofs.Ytmmlelmkgnhofaa
