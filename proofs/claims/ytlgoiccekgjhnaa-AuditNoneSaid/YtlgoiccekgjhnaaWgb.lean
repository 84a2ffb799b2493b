/-
  Contracts of the functions that read byte strings: what they return lies in new memory and holds what the plain functions of the text Leb say. Conditions: the slice holds bytes and has a length of at most a million.
-/
import Derived.Test.YtlgoiccekgjhnaaWge
namespace Go.Proofs.Ytlgoiccekgjhnaa
open Go.ChangeShapes Go.WideShapes Go.ChangeAt Go.RowKit
set_option maxHeartbeats 400000
set_option maxRecDepth 100000

theorem clone_any (A : Option Addr) (n c : Nat) (l : List Int) (w : World) (h : Bts w w.heap.size A n c l) (hn : n ≤ 1000000) :
    Calls Try.prog 81 #[.slice A n c] w (Made w l) := by
  obtain ⟨i0, hi, hz0, hz1, hz2⟩ := info_parts info8
  have HB := Lib.hid h
  clear h
  rcases A with _ | ad
  · have h0 : l = [] := List.eq_nil_of_length_eq_zero (by have := HB.out.len; have := HB.out.cap; have := HB.out.nil rfl; omega)
    subst h0
    have hq : (binOp .eql 52 (.slice none n c) (.slice none 0 0)).run Try.prog w = .ok (.bool true) w := Lib.run_eql_slice_nil w _ _ none n c 0 0 Try.underlying52
    go_enter Try.func81, Try.ntmps81
    go_wp2
    go_ret
    exact ⟨_, rfl, OwnB.nil _ _, Below.refl _ _⟩
  · have hq : (binOp .eql 52 (.slice (some ad) n c) (.slice none 0 0)).run Try.prog w = .ok (.bool false) w := Lib.run_eql_slice_nil w _ _ (some ad) n c 0 0 Try.underlying52
    go_enter Try.func81, Try.ntmps81
    go_wp2_with (first
      | (at_builtin; go_must (refine wpList_appB _ rfl (.tmp 5) (.tmp 6) 52 rfl rfl Try.underlying52 hi hz0 hz1 hz2 (base := w.heap.size) (xs := []) (World.ownsRow_lit w #[] 0 (Nat.le_refl _) (Nat.zero_le _) rfl) rfl (HB.out.alloc _) rfl (by simp; omega) (by simp) ?_)
         intro v2 w2 ho2 hb2))
    go_ret
    exact ⟨_, rfl, by simpa using ho2, ((Below.refl _ _).alloc (Nat.le_refl _) _).trans hb2⟩

/-- What a function that reads a byte string says. -/
def GotB (w : World) (l : List Int) (e : Ending) (w' : World) : Prop := ∃ v, e = .returned (.tuple #[v, .int .i64 (rbK l), .int .i64 (rbE l)]) ∧ OwnB w' w.heap.size v (rbS l) ∧ Below w.heap.size w w'
theorem gotB {w w' : World} {l s : List Int} {v : Value} {k e : Int} (h : rbE l = e ∧ rbS l = s ∧ rbK l = k) (ho : OwnB w' w.heap.size v s) (hb : Below w.heap.size w w') : GotB w l (.returned (.tuple #[v, .int .i64 k, .int .i64 e])) w' := by
  obtain ⟨rfl, rfl, rfl⟩ := h
  exact ⟨v, rfl, ho, hb⟩

theorem bytes_any (A : Option Addr) (n c : Nat) (l : List Int) (w : World) (h : Bts w w.heap.size A n c l) (hs : Small l) (hn : n ≤ 1000000) :
    Calls Try.prog 70 #[.slice A n c] w (GotB w l) := by
  have HB := Lib.hid h
  have HU := Lib.hid (uint_any A n c l w h hs hn)
  have hl := h.len
  have hcap := h.cap
  have hsm := h.small
  unfold maxLen at hsm
  obtain ⟨x0, x1, k0, k1, k2⟩ := rd_bd hs
  have hR := rd_self l
  clear h hs
  unfold GotU at HU
  obtain ⟨x, hx⟩ : ∃ x, rdX l = x := ⟨_, rfl⟩
  obtain ⟨k, hk⟩ : ∃ k : Nat, rdK l = k := ⟨(rdK l).toNat, by omega⟩
  obtain ⟨e, he⟩ : ∃ e, rdE l = e := ⟨_, rfl⟩
  rw [hx, hk, he] at HU
  rw [hx] at x0 x1
  rw [hk] at k1 k2
  by_cases hz : e = 0
  · have q1 : (e != 0) = false := by simp [hz]
    have hkp : 1 ≤ k := by
      have h3 := hk
      rw [rdK, if_pos (by omega)] at h3
      omega
    obtain ⟨b, o, rfl, hbB, hcells⟩ := HB.out.cells (by omega)
    have HCe := Lib.hid hcells
    clear hcells
    by_cases hbig : 65536 < x
    · have HR := Lib.hid (rb_big (l := l) (by omega) (by omega))
      clear hx hk he hz hR hl
      go_enter Try.func70, Try.ntmps70
      go_wp2_with fail
      refine HU.out.mono ?_
      rintro e' w' ⟨rfl, rfl⟩
      go_wp2
      go_ret3
      exact gotB HR.out (OwnB.nil _ _) (Below.refl _ _)
    · obtain ⟨m, rfl⟩ : ∃ m : Nat, x = m := ⟨x.toNat, by omega⟩
      have hm6 : m ≤ 65536 := by omega
      have hkn : k ≤ n := by omega
      clear x1 hbig
      have HD : Hid (k + m ≤ n → Bts w w.heap.size (if c = k then some ⟨b, o, none⟩ else some ⟨b, o + k, none⟩) m (c - k) ((l.drop k).take m)) := Lib.hid fun hle => by
        have h1 := (HB.out.drop (k := k) (by omega)).take (k := m) (by omega)
        simpa [Addr.add_lit] using h1
      by_cases hcut : n < k + m
      · have HR := Lib.hid (rb_cut (l := l) (by omega) (by omega) (by omega))
        clear hx hk he hz hR hl HD
        by_cases hck : c = k
        · obtain rfl : n = k := by omega
          obtain rfl : n = c := by omega
          go_enter Try.func70, Try.ntmps70
          go_wp2_with fail
          refine HU.out.mono ?_
          rintro e' w' ⟨rfl, rfl⟩
          go_wp2
          go_quiet (fail)
          go_wp2
          go_ret3
          exact gotB HR.out (OwnB.nil _ _) (below_drewN (Below.refl _ _) _)
        · go_enter Try.func70, Try.ntmps70
          go_wp2_with fail
          refine HU.out.mono ?_
          rintro e' w' ⟨rfl, rfl⟩
          go_wp2
          go_quiet (fail)
          go_wp2
          go_ret3
          exact gotB HR.out (OwnB.nil _ _) (below_drewN (Below.refl _ _) _)
      · have HR := Lib.hid (rb_ok (l := l) (by omega) (by omega) (by omega))
        rw [hx, hk, Int.toNat_natCast, Int.toNat_natCast] at HR
        clear hx hk he hz hR hl
        by_cases hck : c = k
        · obtain rfl : n = k := by omega
          obtain rfl : n = c := by omega
          have hD := HD.out (by omega)
          rw [if_pos rfl, Nat.sub_self] at hD
          have HD2 := Lib.hid hD
          clear hD HD
          go_enter Try.func70, Try.ntmps70
          go_wp2_with fail
          refine HU.out.mono ?_
          rintro e' w' ⟨rfl, rfl⟩
          go_wp2
          go_quiet (fail)
          go_wp2_with fail
          refine (clone_any _ _ _ _ (w.drewN _) (HD2.out.keep fun _ _ => rfl) (by omega)).mono ?_
          rintro e' w1 ⟨v1, rfl, ho1, hb1⟩
          have HO1 := Lib.hid ho1
          have hb2 : Below w.heap.size w w1 := (below_drewN (Below.refl w.heap.size w) _).trans hb1
          clear ho1 hb1
          go_wp2
          go_ret3
          exact gotB HR.out HO1.out hb2
        · have hD := HD.out (by omega)
          rw [if_neg hck] at hD
          have HD2 := Lib.hid hD
          clear hD HD
          go_enter Try.func70, Try.ntmps70
          go_wp2_with fail
          refine HU.out.mono ?_
          rintro e' w' ⟨rfl, rfl⟩
          go_wp2
          go_quiet (fail)
          go_wp2_with fail
          refine (clone_any _ _ _ _ (w.drewN _) (HD2.out.keep fun _ _ => rfl) (by omega)).mono ?_
          rintro e' w1 ⟨v1, rfl, ho1, hb1⟩
          have HO1 := Lib.hid ho1
          have hb2 : Below w.heap.size w w1 := (below_drewN (Below.refl w.heap.size w) _).trans hb1
          clear ho1 hb1
          go_wp2
          go_ret3
          exact gotB HR.out HO1.out hb2
  · have q1 : (e != 0) = true := by rw [bne_iff_ne]; omega
    have HR := Lib.hid (rb_err he hz)
    clear hx hk he hz hR hl
    go_enter Try.func70, Try.ntmps70
    go_wp2_with fail
    refine HU.out.mono ?_
    rintro e' w' ⟨rfl, rfl⟩
    go_wp2
    go_ret3
    exact gotB HR.out (OwnB.nil _ _) (Below.refl _ _)

theorem bytesR_any (A : Option Addr) (n c : Nat) (l : List Int) (w : World) (h : Bts w w.heap.size A n c l) (hs : Small l) (hn : n ≤ 1000000) :
    Calls Try.prog 61 #[.slice A n c] w (GotB w l) := by
  obtain ⟨i0, hi, hz0, hz1, hz2⟩ := info_parts info8
  have HB := Lib.hid h
  have HU := Lib.hid (uintR_any A n c l w h hs hn)
  have hl := h.len
  have hcap := h.cap
  have hsm := h.small
  unfold maxLen at hsm
  obtain ⟨x0, x1, k0, k1, k2⟩ := rd_bd hs
  have hR := rd_self l
  clear h hs
  unfold GotU at HU
  obtain ⟨x, hx⟩ : ∃ x, rdX l = x := ⟨_, rfl⟩
  obtain ⟨k, hk⟩ : ∃ k : Nat, rdK l = k := ⟨(rdK l).toNat, by omega⟩
  obtain ⟨e, he⟩ : ∃ e, rdE l = e := ⟨_, rfl⟩
  rw [hx, hk, he] at HU
  rw [hx] at x0 x1
  rw [hk] at k1 k2
  by_cases hz : e = 0
  · have q1 : (e != 0) = false := by simp [hz]
    have hkp : 1 ≤ k := by
      have h3 := hk
      rw [rdK, if_pos (by omega)] at h3
      omega
    obtain ⟨b, o, rfl, hbB, hcells⟩ := HB.out.cells (by omega)
    have HCe := Lib.hid hcells
    clear hcells
    by_cases hbig : 65536 < x
    · have HR := Lib.hid (rb_big (l := l) (by omega) (by omega))
      clear hx hk he hz hR hl
      go_enter Try.func61, Try.ntmps61
      go_wp2_with fail
      refine HU.out.mono ?_
      rintro e' w' ⟨rfl, rfl⟩
      go_wp2
      go_ret3
      exact gotB HR.out (OwnB.nil _ _) (Below.refl _ _)
    · obtain ⟨m, rfl⟩ : ∃ m : Nat, x = m := ⟨x.toNat, by omega⟩
      have hm6 : m ≤ 65536 := by omega
      have hkn : k ≤ n := by omega
      clear x1 hbig
      have HD : Hid (k + m ≤ n → Bts w w.heap.size (if c = k then some ⟨b, o, none⟩ else some ⟨b, o + k, none⟩) m (c - k) ((l.drop k).take m)) := Lib.hid fun hle => by
        have h1 := (HB.out.drop (k := k) (by omega)).take (k := m) (by omega)
        simpa [Addr.add_lit] using h1
      by_cases hcut : n < k + m
      · have HR := Lib.hid (rb_cut (l := l) (by omega) (by omega) (by omega))
        clear hx hk he hz hR hl HD
        by_cases hck : c = k
        · obtain rfl : n = k := by omega
          obtain rfl : n = c := by omega
          go_enter Try.func61, Try.ntmps61
          go_wp2_with fail
          refine HU.out.mono ?_
          rintro e' w' ⟨rfl, rfl⟩
          go_wp2
          go_ret3
          exact gotB HR.out (OwnB.nil _ _) (Below.refl _ _)
        · go_enter Try.func61, Try.ntmps61
          go_wp2_with fail
          refine HU.out.mono ?_
          rintro e' w' ⟨rfl, rfl⟩
          go_wp2
          go_ret3
          exact gotB HR.out (OwnB.nil _ _) (Below.refl _ _)
      · have HR := Lib.hid (rb_ok (l := l) (by omega) (by omega) (by omega))
        rw [hx, hk, Int.toNat_natCast, Int.toNat_natCast] at HR
        clear hx hk he hz hR hl
        by_cases hck : c = k
        · obtain rfl : n = k := by omega
          obtain rfl : n = c := by omega
          have hD := HD.out (by omega)
          rw [if_pos rfl, Nat.sub_self, show m = n + m - n by omega] at hD
          have HD2 := Lib.hid hD
          clear hD HD
          go_enter Try.func61, Try.ntmps61
          go_wp2_with fail
          refine HU.out.mono ?_
          rintro e' w' ⟨rfl, rfl⟩
          go_wp2_with (first
            | (at_builtin; go_must (refine wpList_appB _ rfl (.tmp 26) (.tmp 33) 52 rfl rfl Try.underlying52 hi hz0 hz1 hz2 (base := w.heap.size) (xs := []) (World.ownsRow_lit w #[] 0 (Nat.le_refl _) (Nat.zero_le _) rfl) rfl (HD2.out.alloc _) rfl (by simp; omega) (by simp) ?_)
               intro v2 w2 ho2 hb2))
          go_ret3
          exact gotB HR.out (by simpa using ho2) (((Below.refl _ _).alloc (Nat.le_refl _) _).trans hb2)
        · have hD := HD.out (by omega)
          rw [if_neg hck, show m = k + m - k by omega] at hD
          have HD2 := Lib.hid hD
          clear hD HD
          go_enter Try.func61, Try.ntmps61
          go_wp2_with fail
          refine HU.out.mono ?_
          rintro e' w' ⟨rfl, rfl⟩
          go_wp2_with (first
            | (at_builtin; go_must (refine wpList_appB _ rfl (.tmp 26) (.tmp 33) 52 rfl rfl Try.underlying52 hi hz0 hz1 hz2 (base := w.heap.size) (xs := []) (World.ownsRow_lit w #[] 0 (Nat.le_refl _) (Nat.zero_le _) rfl) rfl (HD2.out.alloc _) rfl (by simp; omega) (by simp) ?_)
               intro v2 w2 ho2 hb2))
          go_ret3
          exact gotB HR.out (by simpa using ho2) (((Below.refl _ _).alloc (Nat.le_refl _) _).trans hb2)
  · have q1 : (e != 0) = true := by rw [bne_iff_ne]; omega
    have HR := Lib.hid (rb_err he hz)
    clear hx hk he hz hR hl
    go_enter Try.func61, Try.ntmps61
    go_wp2_with fail
    refine HU.out.mono ?_
    rintro e' w' ⟨rfl, rfl⟩
    go_wp2
    go_ret3
    exact gotB HR.out (OwnB.nil _ _) (Below.refl _ _)
end Go.Proofs.Ytlgoiccekgjhnaa
