/-
  Contracts of the landed ledger's all: the borrows in the order of the objects. Conditions: at most a hundred thousand borrows.
-/
import Derived.Test.YtmmlelmkgnhofaaLde
namespace Go.Proofs.Ytmmlelmkgnhofaa
open Go.ChangeShapes Go.WideShapes Go.ChangeAt Go.RowKit
open Go.Maps (Keyed int_keyed)
set_option linter.unusedVariables false
set_option linter.unusedSimpArgs false
set_option maxHeartbeats 4000000
set_option maxRecDepth 100000

/-- The borrows of some objects, one after another. -/
def cat (L : List Bo) (ks : List Int) : List Bo := ks.flatMap fun o => ofL o L
section
variable {w w' : World} {c : Nat → Nat} {k p b n N : Nat} {D : DataW Value} {sl : Int → Value} {L L' : List Bo} {o h m : Int} {q : Option Addr} {ks : List Int}
theorem cat_all (hL : Srt L) (hk : ks.Pairwise fun x y => x < y) (hm : ∀ o, o ∈ ks ↔ ofL o L ≠ []) : cat L ks = L := by
  refine srt_ext ?_ hL fun x => ?_
  · refine List.pairwise_flatMap.2 ⟨fun o _ => hL.of o, hk.imp fun {a b} hab x hx y hy => .inl ?_⟩
    have h1 := (mem_of.1 hx).2
    have h2 := (mem_of.1 hy).2
    omega
  · unfold cat
    rw [List.mem_flatMap]
    constructor
    · rintro ⟨o, _, hx⟩
      exact (mem_of.1 hx).1
    · intro hx
      have hxo : x ∈ ofL x.o L := mem_of.2 ⟨hx, rfl⟩
      exact ⟨x.o, (hm _).2 (fun e => by rw [e] at hxo; cases hxo), hxo⟩
theorem cat_step {i : Nat} {x : Int} (hx : ks[i]? = some x) : cat L (ks.take (i + 1)) = cat L (ks.take i) ++ ofL x L := by
  unfold cat
  rw [List.take_add_one, hx, List.flatMap_append]
  simp
theorem cat_len {i : Nat} (hL : Srt L) (hk : ks.Pairwise fun x y => x < y) (hm : ∀ o, o ∈ ks ↔ ofL o L ≠ []) : (cat L (ks.take i)).length ≤ L.length := by
  have h1 : cat L ks = cat L (ks.take i) ++ cat L (ks.drop i) := by
    unfold cat
    rw [← List.flatMap_append, List.take_append_drop]
  rw [cat_all hL hk hm] at h1
  have h2 := congrArg List.length h1
  rw [List.length_append] at h2
  omega
theorem all_any (H : Ldq w c k q L) (hL : Srt L) (hri : ∀ x ∈ L, Ri x.o) (hn : L.length ≤ 100000) : Calls Try.prog 50 #[.pointer q] w (MkB w L) := by
  obtain ⟨i0, hi0, hz0, hz1, hz2⟩ := info_parts infoB
  obtain ⟨mv, hm, hl⟩ := lists_any H
  have HL := Lib.hid (hl w (fun _ _ h => h))
  have HK := Lib.hid (mapKeys_any mv w)
  have hb1 : Below w.heap.size w (w.alloc (.cells #[.map mv] 52)) := (Below.refl _ _).alloc (Nat.le_refl _) _
  have hcell : (w.alloc (.cells #[.map mv] 52)).cell? ⟨w.heap.size, 0, none⟩ = some (.map mv) := cell_alloc rfl
  have hbx : (w.alloc (.cells #[.map mv] 52)).heap.size = w.heap.size + 1 := by simp
  have HS : Hid (Calls Try.prog 53 #[.func (.func 58) #[] #[.pointer (some ⟨w.heap.size, 0, none⟩)]] (w.alloc (.cells #[.map mv] 52)) (KsE (w.alloc (.cells #[.map mv] 52)) fun x => ofL x L ≠ [])) := Lib.hid (by
    rcases hm with ⟨rfl, rfl⟩ | ⟨b, rfl, hcb, n, D, sl, hown, S⟩
    · refine (sorted_none _ _ hcell).mono ?_
      rintro e w2 ⟨v, ks, h1, h2, h3, h4, h5⟩
      exact ⟨v, ks, h1, h2, h3, fun x => by rw [h4 x]; simp [ofL], h5⟩
    · refine (sorted_any _ _ b n D hcell (ownsMap_keep hown (hb1.block b hown.lt)) (by have := size_le hown S; omega)).mono ?_
      rintro e w2 ⟨v, ks, h1, h2, h3, h4, h5⟩
      refine ⟨v, ks, h1, h2, h3, fun x => ?_, h5⟩
      rw [h4 x]
      by_cases hx : Ri x
      · exact S.has x hx
      · constructor
        · intro h6
          obtain ⟨k1, k2⟩ := keys_facts hown Try.underlying3
          exact absurd (intKeys_wf hown Try.underlying3 x ((k2 x).2 h6)) hx
        · intro h6
          cases e : ofL x L with
          | nil => exact absurd e h6
          | cons z r =>
            have hz : z ∈ ofL x L := by rw [e]; simp
            obtain ⟨h7, h8⟩ := mem_of.1 hz
            exact absurd (h8 ▸ hri z h7) hx)
  have HH := Lib.hid H
  have HSR := Lib.hid hL
  have HRI := Lib.hid hri
  have HB1 := Lib.hid hb1
  unfold KsE at HS
  unfold MkB
  clear H hm hl hL hri hb1 hcell
  go_enter Try.func50, Try.ntmps50
  go_wp2_with fail
  refine HL.out.mono ?_
  rintro e w0 ⟨rfl, rfl⟩
  go_wp2_with fail
  refine HK.out.mono ?_
  rintro e w1 ⟨rfl, hw1⟩
  rw [← hw1] at HS HB1 hbx
  clear hw1 HK HL
  go_wp2_with fail
  refine HS.out.mono ?_
  rintro e w2 ⟨v, ks, rfl, ho, hasc, hmem, hb⟩
  obtain ⟨A, n, cc, rfl, hx⟩ := ho.shape
  have hcap := hx.cap
  have hsm := hx.small
  unfold maxLen at hsm
  have HKL : Hid (n = ks.length) := Lib.hid hx.len.symm
  have HKS := Lib.hid hx
  have HAS := Lib.hid hasc
  have HME := Lib.hid hmem
  have HB2 := Lib.hid (Below.then HB1.out hb (Nat.le_refl _))
  clear HS ho hasc hmem hb hx HB1 hbx
  go_wp2
  go_loopw [3, 11] (fun lv iv wr => ∃ i : Nat, i ≤ n ∧ iv = .int .i64 i ∧ Hid (OwnK bo4 47 wr w2.heap.size lv (cat L (ks.take i)) ∧ Below w2.heap.size w2 wr)) (fun _ iv _ => n - (intOf iv).toNat)
  case atStart => exact ⟨0, Nat.zero_le _, rfl, Lib.hid ⟨OwnK.nil _ _ _ _, Below.refl _ _⟩⟩
  case round =>
    obtain ⟨i, hi, rfl, hh⟩ := hrel
    obtain ⟨hor, hbr⟩ := hh.out
    obtain ⟨A1, n1, c1, rfl, hx1⟩ := hor.shape
    have HOR := Lib.hid hor
    have HBR := Lib.hid hbr
    by_cases hin : i < n
    · have hkr := HKS.out.go hbr
      obtain ⟨ob, oo, x, hx, rfl, hob, hcell⟩ := hkr.at_ hin
      have e0 : wr.cell? ⟨ob, oo + i, none⟩ = some (.int .i64 x) := by
        have := hcell 0 (.int .i64 x) rfl
        have e1 : oo + i * int1.k + 0 = oo + i := by show oo + i * 1 + 0 = oo + i; omega
        rw [e1] at this
        exact this
      have hne : ofL x L ≠ [] := (HME.out x).1 (List.mem_of_getElem? hx)
      have hrx : Ri x := by
        cases e : ofL x L with
        | nil => exact absurd e hne
        | cons z r =>
          have hz : z ∈ ofL x L := by rw [e]; simp
          obtain ⟨h7, h8⟩ := mem_of.1 hz
          exact h8 ▸ HRI.out z h7
      have hLr := HH.out.go (Below.then HB2.out hbr (Nat.le_refl _))
      rcases hLr with ⟨rfl, rfl⟩ | ⟨p, rfl, hcp, mv', hp, hm⟩
      · exact absurd rfl hne
      obtain ⟨A2, n2, cap2, hr, hrow⟩ := hm.look hrx
      obtain ⟨A', n', cc', e', hk2⟩ := hrow.1.shape
      cases e'
      have c0 := cell_of_row wr p 0 _ _ _ hp
      have hi0' : (0 : Int) ≤ (i : Int) := by omega
      have hi1 : (i : Int) < (n : Int) := by omega
      have hd : decide ((i : Int) < (n : Int)) = true := decide_eq_true hi1
      have HK2 := Lib.hid hk2
      have HLE : Hid ((cat L (ks.take i)).length + n2 ≤ 4294967296) := Lib.hid (by
        have h1 := cat_len (i := i) HSR.out HAS.out HME.out
        have h2 := hk2.len
        have h3 := of_len (o := x) (L := L)
        omega)
      have HST := Lib.hid (cat_step (L := L) hx)
      clear hh hor hbr hx1 hkr hx hob hcell hne hrx hp hm hrow hk2 hcp
      go_wp2_with (at_builtin; go_must (refine wpList_appK _ rfl (.tmp 15) (.tmp 21) 26 rfl Try.underlying26 hi0 hz0 rfl hz1 (by omega) HOR.out rfl HK2.out rfl HLE.out HBR.out.size ?_); intro v3 w3 ho3 hb3 hg3; obtain ⟨A3, n3, c3, rfl, hx3⟩ := ho3.shape)
      have HO3 := Lib.hid ho3
      have HB3 := Lib.hid (HBR.out.trans hb3)
      clear ho3 hb3 hg3 hx3
      go_wp2
      go_roundw
      case rel => exact ⟨i + 1, by omega, by go_num, Lib.hid ⟨by rw [HST.out]; exact HO3.out, HB3.out⟩⟩
      case measure => simp [intOf]; omega
    · obtain rfl : i = n := by omega
      have HE : Hid (cat L (ks.take i) = L) := Lib.hid (by rw [List.take_of_length_le (by have := HKL.out; omega)]; exact cat_all HSR.out HAS.out HME.out)
      clear hh hor hbr hx1
      have hd : decide ((i : Int) < (i : Int)) = false := by simp
      go_wp2
      go_ret
      refine ⟨_, rfl, ?_, Below.then HB2.out HBR.out (Nat.le_refl _)⟩
      rw [← HE.out]
      exact HOR.out.down HB2.out.size
end
end Go.Proofs.Ytmmlelmkgnhofaa
