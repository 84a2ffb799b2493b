/-
  What the laws ask of a log, as a bundle of contracts over any reading of it; a log beside what a law keeps of its own; the example of the chapter and the comparison of Decode. Conditions: the bundle's.
-/
import Derived.Test.YtlgoiccekgjhnaaAmd
import Derived.Test.YtlgoiccekgjhnaaAmv
import Derived.Test.YtlgoiccekgjhnaaEvo
import Derived.Test.YtlgoiccekgjhnaaImp
namespace Go.Proofs.Ytlgoiccekgjhnaa
open Go.ChangeShapes Go.WideShapes Go.ChangeAt Go.RowKit
set_option linter.unusedVariables false
set_option linter.unusedSimpArgs false
set_option maxHeartbeats 4000000
set_option maxRecDepth 100000

/-- How a log is read: the world, the colours, its colour, its block, its capacity, its events, the plugins of the missed ones. -/
abbrev LgP := World → (Nat → Nat) → Nat → Nat → Int → List Ev5 → List Int → Prop
/-- An event as a value. -/
abbrev evA (x : Ev5) : Value := .agg #[.int .i64 x.p, .int .i64 x.o, .int .u64 x.h, .int .u64 x.a, .int .i64 x.e]
def Word5 (x : Ev5) : Prop := (0 ≤ x.h ∧ x.h < 18446744073709551616) ∧ 0 ≤ x.a ∧ x.a < 18446744073709551616
structure AuC (Lg : LgP) : Prop where
  lt : ∀ {w : World} {c : Nat → Nat} {k p : Nat} {cap : Int} {L : List Ev5} {M : List Int}, Lg w c k p cap L M → p < w.heap.size
  kept : ∀ {w w' : World} {c c' : Nat → Nat} {j k p : Nat} {cap : Int} {L : List Ev5} {M : List Int}, Lg w c k p cap L M → Kept c j w w' → j ≠ k → (∀ g, g < w.heap.size → c' g = c g) → Lg w' c' k p cap L M
  newOk : ∀ (cap : Int) (w : World) (c : Nat → Nat) (k : Nat), 0 ≤ cap → cap ≤ 65536 → Calls Try.prog 12 #[.int .i64 cap] w fun e w' =>
    ∃ p, e = .returned (.tuple #[.pointer (some ⟨p, 0, none⟩), .int .i64 0]) ∧ w.heap.size ≤ p ∧ Lg w' (rc c w.heap.size k) k p cap [] [] ∧ Below w.heap.size w w'
  append : ∀ {w : World} {c : Nat → Nat} {k p : Nat} {cap : Int} {L : List Ev5} {M : List Int} (x : Ev5), Lg w c k p cap L M → L.length ≤ 1000 → Word5 x → Calls Try.prog 15 #[.pointer (some ⟨p, 0, none⟩), evA x] w fun e w' =>
    e = .returned (.int .i64 (apE cap L x)) ∧ Lg w' (rc c w.heap.size k) k p cap (apL cap L x) M ∧ Kept c k w w'
  room : ∀ {w : World} {c : Nat → Nat} {k p : Nat} {cap : Int} {L : List Ev5} {M : List Int} (z : Int), Lg w c k p cap L M → L.length ≤ 1000 → Ri z → Calls Try.prog 31 #[.pointer (some ⟨p, 0, none⟩), .int .i64 z] w (Says w (.bool (decide ((rcN L z : Int) < cap))))
  records : ∀ {w : World} {c : Nat → Nat} {k p : Nat} {cap : Int} {L : List Ev5} {M : List Int} (z : Int), Lg w c k p cap L M → L.length ≤ 1000 → Ri z → Calls Try.prog 32 #[.pointer (some ⟨p, 0, none⟩), .int .i64 z] w (Says w (.int .i64 (rcN L z : Int)))
  missed : ∀ {w : World} {c : Nat → Nat} {k p : Nat} {cap : Int} {L : List Ev5} {M : List Int} (z : Int), Lg w c k p cap L M → M.length ≤ 1000 → Ri z → Calls Try.prog 46 #[.pointer (some ⟨p, 0, none⟩), .int .i64 z] w (Says w (.int .i64 (msN M z : Int)))
  miss : ∀ {w : World} {c : Nat → Nat} {k p : Nat} {cap : Int} {L : List Ev5} {M : List Int} (z : Int), Lg w c k p cap L M → M.length ≤ 1000 → Ri z → Calls Try.prog 17 #[.pointer (some ⟨p, 0, none⟩), .int .i64 z] w fun e w' =>
    e = .returned (.tuple #[]) ∧ Lg w' (rc c w.heap.size k) k p cap L (M ++ [z]) ∧ Kept c k w w'
  len : ∀ {w : World} {c : Nat → Nat} {k p : Nat} {cap : Int} {L : List Ev5} {M : List Int}, Lg w c k p cap L M → L.length ≤ 1000 → Calls Try.prog 25 #[.pointer (some ⟨p, 0, none⟩)] w (Says w (.int .i64 (L.length : Int)))
  bytes : ∀ {w : World} {c : Nat → Nat} {k p : Nat} {cap : Int} {L : List Ev5} {M : List Int}, Lg w c k p cap L M → L.length ≤ 1000 → Goods L → Calls Try.prog 23 #[.pointer (some ⟨p, 0, none⟩)] w (Made w (lgB start L))
  digest : ∀ {w : World} {c : Nat → Nat} {k p : Nat} {cap : Int} {L : List Ev5} {M : List Int}, Lg w c k p cap L M → L.length ≤ 1000 → Goods L → Calls Try.prog 26 #[.pointer (some ⟨p, 0, none⟩)] w (Says w (.int .u64 (lgD start L)))
  decode : ∀ (A : Option Addr) (n c : Nat) (b : List Int) (w : World), Bts w w.heap.size A n c b → Small b → n ≤ 100000 → Calls Try.prog 22 #[.slice A n c] w (DlE w b)

/-- A row of the law's own, with a colour. -/
def OwD {α : Type} (k base : Nat) (E : Enc α) (t : TypeId) (w : World) (c : Nat → Nat) (v : Value) (l : List α) : Prop := OwnK E t w base v l ∧ ∀ g, v.ownBlock = some g → c g = k
section
variable {α : Type} {E : Enc α} {t : TypeId} {w w' : World} {c c' : Nat → Nat} {j k base : Nat} {v v' : Value} {l l' : List α}
theorem OwD.nil : OwD k base E t w c (.slice none 0 0) [] := ⟨OwnK.nil _ _ _ _, fun g hg => by cases hg⟩
theorem OwD.kept (h : OwD k base E t w c v l) (hk : Kept c j w w') (hjk : j ≠ k) (hc : ∀ g, g < w.heap.size → c' g = c g) : OwD k base E t w' c' v l :=
  ⟨h.1.keptC hk (fun g hg => by rw [h.2 g hg]; omega), fun g hg => (hc g (h.1.ge hg).2).trans (h.2 g hg)⟩
theorem OwD.go (h : OwD k base E t w c v l) (hb : Below w.heap.size w w') (hc : ∀ g, g < w.heap.size → c' g = c g) : OwD k base E t w' c' v l := h.kept (j := k + 1) (Kept.ofBelow hb) (by omega) hc
theorem OwD.app (h : OwD k base E t w c v l) (ho : OwnK E t w' base v' l') (hg : w.grownBy w' v.ownBlock) (hv : v'.ownBlock = v.ownBlock ∨ v'.ownBlock = some w.heap.size) : OwD k base E t w' (cn c w.heap.size k v') v' l' ∧ Kept c k w w' := by
  refine ⟨⟨ho, fun g hgo => ?_⟩, Kept.ofGrown hg h.2⟩
  unfold cn
  by_cases hlt : g < w.heap.size
  · rw [if_pos hlt]
    rcases hv with e | e
    · exact h.2 g (e ▸ hgo)
    · rw [e] at hgo
      cases hgo
      omega
  · rw [if_neg hlt, if_pos hgo]
theorem OwD.kws {A : Option Addr} {n cp : Nat} (h : OwD k base E t w c (.slice A n cp) l) : Kws E w w.heap.size A n cp l := by
  obtain ⟨A', n', c', e, hk⟩ := h.1.shape
  cases e
  exact hk
end
/-- A log (colour 1) in a world behind w0; all of w0's blocks have the colour 0. -/
def Al (Lg : LgP) (w0 : World) (c : Nat → Nat) (p : Nat) (cap : Int) (L : List Ev5) (M : List Int) (w : World) : Prop := (∀ g, g < w0.heap.size → c g = 0) ∧ Below w0.heap.size w0 w ∧ Lg w c 1 p cap L M
section
variable {Lg : LgP} (C : AuC Lg) {w w0 w1 : World} {c : Nat → Nat} {p : Nat} {cap : Int} {L : List Ev5} {M : List Int}
include C
/-- New memory has the colour 0. -/
theorem Al.go (H : Al Lg w0 c p cap L M w) (hb : Below w.heap.size w w1) : ∃ c', Al Lg w0 c' p cap L M w1 ∧ (∀ g, g < w.heap.size → c' g = c g) ∧ ∀ g, w.heap.size ≤ g → c' g = 0 := by
  obtain ⟨h1, h2, h3⟩ := H
  have hz := h2.size
  exact ⟨rc c w.heap.size 0, ⟨fun g hg => by rw [rc_old (by omega)]; exact h1 g hg, h2.trans (hb.mono hz), C.kept h3 (j := 0) (Kept.ofBelow hb) (by omega) (fun g hg => rc_old hg)⟩, fun g hg => rc_old hg, fun g hg => rc_new hg⟩
/-- Behind a write to a row of the law's own. -/
theorem Al.own {r : Option Nat} {c' : Nat → Nat} (H : Al Lg w0 c p cap L M w) (hg : w.grownBy w1 r) (hr : ∀ g, r = some g → c g = 0 ∧ w0.heap.size ≤ g) (hc : ∀ g, g < w.heap.size → c' g = c g) : Al Lg w0 c' p cap L M w1 := by
  obtain ⟨h1, h2, h3⟩ := H
  have hz := h2.size
  refine ⟨fun g hg' => by rw [hc g (by omega)]; exact h1 g hg', h2.grown hg hz (fun g e => (hr g e).2), C.kept h3 (j := 0) (Kept.ofGrown hg (fun g e => (hr g e).1)) (by omega) hc⟩
theorem Al.append (x : Ev5) (H : Al Lg w0 c p cap L M w) (hl : L.length ≤ 1000) (hx : Word5 x) : Calls Try.prog 15 #[.pointer (some ⟨p, 0, none⟩), evA x] w fun e w' =>
    e = .returned (.int .i64 (apE cap L x)) ∧ ∃ c', Al Lg w0 c' p cap (apL cap L x) M w' ∧ Kept c 1 w w' ∧ ∀ g, g < w.heap.size → c' g = c g := by
  obtain ⟨h1, h2, h3⟩ := H
  have hz := h2.size
  exact (C.append x h3 hl hx).mono fun e w' ⟨he, hL, hk⟩ => ⟨he, rc c w.heap.size 1, ⟨fun g hg => by rw [rc_old (by omega)]; exact h1 g hg, h2.trans (hk.below (fun g hg => by rw [h1 g hg]; omega) hz), hL⟩, hk, fun g hg => rc_old hg⟩
theorem Al.miss (z : Int) (H : Al Lg w0 c p cap L M w) (hm : M.length ≤ 1000) (hz0 : Ri z) : Calls Try.prog 17 #[.pointer (some ⟨p, 0, none⟩), .int .i64 z] w fun e w' =>
    e = .returned (.tuple #[]) ∧ ∃ c', Al Lg w0 c' p cap L (M ++ [z]) w' ∧ Kept c 1 w w' ∧ ∀ g, g < w.heap.size → c' g = c g := by
  obtain ⟨h1, h2, h3⟩ := H
  have hz := h2.size
  exact (C.miss z h3 hm hz0).mono fun e w' ⟨he, hL, hk⟩ => ⟨he, rc c w.heap.size 1, ⟨fun g hg => by rw [rc_old (by omega)]; exact h1 g hg, h2.trans (hk.below (fun g hg => by rw [h1 g hg]; omega) hz), hL⟩, hk, fun g hg => rc_old hg⟩
theorem aw17_any (w : World) : Calls Try.prog 11 #[] w (Says w (.bool true)) := by
  have HN := Lib.hid (C.newOk 1 w (fun _ => 0) 1 (by omega) (by omega))
  have HA : Hid (∀ {w : World} {c : Nat → Nat} {p : Nat} {L : List Ev5} (x : Ev5) (r : Int) (w1 : World), Al Lg w c p 1 L [] w1 → L.length ≤ 1000 → Word5 x → apE 1 L x = r → Calls Try.prog 15 #[.pointer (some ⟨p, 0, none⟩), evA x] w1 fun e w' => e = .returned (.int .i64 r) ∧ ∃ c', Al Lg w c' p 1 (apL 1 L x) [] w') := Lib.hid (fun x r w1 h1 h2 h3 h4 => (Al.append C x h1 h2 h3).mono fun e w' ⟨he, c', hA, _⟩ => ⟨by rw [he, h4], c', hA⟩)
  have f1 : apE 1 [] ⟨1, 2, 0, 0, 0⟩ = 0 := by decide
  have f2 : apL 1 [] ⟨1, 2, 0, 0, 0⟩ = [⟨1, 2, 0, 0, 0⟩] := apL_ok f1
  have f3 : apE 1 [⟨1, 2, 0, 0, 0⟩] ⟨1, 2, 0, 0, 0⟩ = 19 := by decide
  have f4 : apL 1 [⟨1, 2, 0, 0, 0⟩] ⟨1, 2, 0, 0, 0⟩ = [⟨1, 2, 0, 0, 0⟩] := apL_no (by rw [f3]; omega)
  have f5 : apE 1 [⟨1, 2, 0, 0, 0⟩] ⟨2, 2, 0, 0, 0⟩ = 0 := by decide
  have F1 := Lib.hid f1
  have F2 := Lib.hid f2
  have F3 := Lib.hid f3
  have F4 := Lib.hid f4
  have F5 := Lib.hid f5
  have hw : ∀ p o e : Int, Word5 ⟨p, o, 0, 0, e⟩ := fun p o e => ⟨⟨by simp only; omega, by simp only; omega⟩, by simp only; omega, by simp only; omega⟩
  have HW := Lib.hid hw
  clear f1 f2 f3 f4 f5 hw
  go_enter Try.func11, Try.ntmps11
  go_wp2_with fail
  refine HN.out.mono ?_
  rintro e w1 ⟨p, rfl, hp, hL, hb⟩
  have h1 : Al Lg w (rc (fun _ => 0) w.heap.size 1) p 1 [] [] w1 := ⟨fun g hg => rc_old hg, hb, hL⟩
  have HC1 := Lib.hid (HA.out ⟨1, 2, 0, 0, 0⟩ 0 w1 h1 (by simp) (HW.out _ _ _) F1.out)
  clear HN hp hL hb h1
  go_wp2_with fail
  refine HC1.out.mono ?_
  rintro e w2 ⟨rfl, c2, h2⟩
  rw [F2.out] at h2
  have HC2 := Lib.hid (HA.out ⟨1, 2, 0, 0, 0⟩ 19 w2 h2 (by simp) (HW.out _ _ _) F3.out)
  clear HC1 h2
  go_wp2_with fail
  refine HC2.out.mono ?_
  rintro e w3 ⟨rfl, c3, h3⟩
  rw [F4.out] at h3
  have HC3 := Lib.hid (HA.out ⟨2, 2, 0, 0, 0⟩ 0 w3 h3 (by simp) (HW.out _ _ _) F5.out)
  clear HC2 h3
  go_wp2_with fail
  refine HC3.out.mono ?_
  rintro e w4 ⟨rfl, c4, h4⟩
  have HB := Lib.hid h4.2.1
  clear HC3 h4
  go_wp2
  go_ret
  exact ⟨rfl, HB.out⟩
theorem same17_any (A : Option Addr) (n cp : Nat) (b : List Int) (w : World) (h : Bts w w.heap.size A n cp b) (hs : Small b) (hn : n ≤ 100000) :
    Calls Try.prog 21 #[.slice A n cp] w (Says w (.bool true)) := by
  have H1 := Lib.hid (C.decode A n cp b w h hs hn)
  have H2 := Lib.hid (fun W (hW : Below w.heap.size w W) => decodeLogR_any A n cp b W ((h.below hW).more hW.size) hs hn)
  unfold DlE at H1 H2
  generalize lgE b = de at *
  generalize lgL b = ll at *
  clear h hs
  go_enter Try.func21, Try.ntmps21
  go_wp2_with fail
  refine H1.out.mono ?_
  rintro e w2 ⟨v2, rfl, ho2, hb2⟩
  obtain ⟨A2, n2, c2, rfl, hk2⟩ := ho2.shape
  have HK2 := Lib.hid hk2
  have HB2 := Lib.hid hb2
  have HC2 := Lib.hid (H2.out w2 hb2)
  clear ho2 hk2 hb2 H1 H2
  go_wp2_with fail
  refine HC2.out.mono ?_
  rintro e w3 ⟨v3, rfl, ho3, hb3⟩
  obtain ⟨A3, n3, c3, rfl, hk3⟩ := ho3.shape
  have HS := Lib.hid (sameEv_any A2 n2 c2 A3 n3 c3 ll w3 (HK2.out.go hb3) hk3)
  have HB3 := Lib.hid (Below.then HB2.out hb3 (Nat.le_refl _))
  clear ho3 hk3 hb3 HC2 HK2 HB2
  go_wp2_with fail
  refine HS.out.mono ?_
  rintro e w4 ⟨rfl, hb4⟩
  have HB4 := Lib.hid (Below.then HB3.out hb4 (Nat.le_refl _))
  clear hb4 HS HB3
  go_wp2
  go_ret
  exact ⟨rfl, HB4.out⟩
end
end Go.Proofs.Ytlgoiccekgjhnaa
