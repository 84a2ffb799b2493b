/-
  Contracts of the allocator's methods that change nothing (find, Fits, Has, FreeList), and of New. Conditions: the lists have at most a million extents, the free set and the list belong together (Gd).
-/
import Derived.Test.YtfchccgajcjbbaaAlc
namespace Go.Proofs.Ytfchccgajcjbbaa
open Go.ChangeShapes Go.WideShapes Go.ChangeAt Go.RowKit
set_option maxHeartbeats 4000000
set_option maxRecDepth 100000

theorem lb_there {size : Int} {F A : List (Int × Int)} (h : Gd size F A) (off : Int) : ∀ k, k ≤ A.length → (∃ i, Lb A off i) ∨ ∀ j x, j < k → A[j]? = some x → x.1 < off
  | 0, _ => .inr fun j x hj => by omega
  | k + 1, hk => by
    rcases lb_there h off k (by omega) with h1 | h1
    · exact .inl h1
    · have hx : A[k]? = some A[k] := List.getElem?_eq_getElem (by omega)
      by_cases hlt : A[k].1 < off
      · exact .inr (lb_lo h hx hlt)
      · exact .inl ⟨k, by omega, h1, lb_hi h hx (by omega)⟩
theorem lb_ex {size : Int} {F A : List (Int × Int)} (h : Gd size F A) (off : Int) : ∃ i, Lb A off i := by
  rcases lb_there h off A.length (Nat.le_refl _) with h1 | h1
  · exact h1
  · exact ⟨A.length, Nat.le_refl _, h1, fun j x hj hx => by
      have := (List.getElem?_eq_some_iff.1 hx).1
      omega⟩
theorem lb_one {A : List (Int × Int)} {off : Int} {i j : Nat} (h : Lb A off i) (h' : Lb A off j) : i = j := by
  rcases Nat.lt_trichotomy i j with h1 | h1 | h1
  · have hl : i < A.length := by have := h'.1; omega
    have hx : A[i]? = some A[i] := List.getElem?_eq_getElem hl
    have := h'.2.1 i _ h1 hx
    have := h.2.2 i _ (Nat.le_refl _) hx
    omega
  · exact h1
  · have hl : j < A.length := by have := h.1; omega
    have hx : A[j]? = some A[j] := List.getElem?_eq_getElem hl
    have := h.2.1 j _ h1 hx
    have := h'.2.2 j _ (Nat.le_refl _) hx
    omega

/-- What find says. -/
def LocE (w : World) (A : List (Int × Int)) (e : Int × Int) (en : Ending) (w' : World) : Prop := ∃ i : Nat, en = .returned (.tuple #[.int .i64 i, .bool (decide (e ∈ A))]) ∧ Lb A e.1 i ∧ Below w.heap.size w w'
theorem locate_any (c : Nat → Nat) (k p : Nat) (F A : List (Int × Int)) (size x y : Int) (w : World) (h : Alc w c k p F A) (hv : Gd size F A) (hA : A.length ≤ 1000000) :
    Calls Try.prog 58 #[.pointer (some ⟨p, 0, none⟩), .agg #[.int .i64 x, .int .i64 y]] w (LocE w A (x, y)) := by
  have hb0 : Below w.heap.size w (w.alloc (.cells #[.int .i64 x, .int .i64 y] 31)) := (Below.refl _ _).alloc (Nat.le_refl _) _
  have HBX := Lib.hid (Box.new (w := w) (x := x) (y := y))
  have HB0 := Lib.hid hb0
  obtain ⟨Af, nf, cf, Aa, na, ca, hcf, hca, hxf, hxa⟩ := (h.go hb0).open_
  have HC := Lib.hid hca
  have HX := Lib.hid hxa
  have hna : na ≤ 1000000 := by have := hxa.len; omega
  have hcap := hxa.cap
  have hsm := hxa.small
  unfold maxLen at hsm
  obtain ⟨i, hi⟩ := lb_ex hv x
  have HI := Lib.hid hi
  obtain ⟨f, hf⟩ : ∃ f : Bool, (f = true ↔ ∃ z, A[i]? = some z ∧ z.1 = x) := by
    by_cases hz : ∃ z, A[i]? = some z ∧ z.1 = x
    · exact ⟨true, fun _ => hz, fun _ => rfl⟩
    · exact ⟨false, (fun h => by cases h), fun h => absurd h hz⟩
  have HBS : Hid (∀ W, Exs W W.heap.size Aa na ca A → Calls Try.prog 72 #[.slice Aa na ca, .agg #[.int .i64 x, .int .i64 y], .func (.func 73) #[] #[]] W fun e w' => e = .returned (.tuple #[.int .i64 i, .bool f]) ∧ Below W.heap.size W w') :=
    Lib.hid fun W hW => (bsearch_any Aa na ca A F size x y W hW hna hv).mono fun e w' ⟨i', f', h1, h2, h3, h4⟩ => by
      obtain rfl := lb_one h2 hi
      have : f' = f := Bool.eq_iff_iff.2 (h3.trans hf.symm)
      subst this
      exact ⟨h1, h4⟩
  have HM := Lib.hid (lb_found hv (e := (x, y)) hi)
  have HF := Lib.hid hf
  clear hi hf hcf hca hxf hxa h hb0 hv
  go_enter Try.func58, Try.ntmps58
  go_wp2
  generalize w.alloc (.cells #[.int .i64 x, .int .i64 y] 31) = w1 at *
  have a0 : ∀ m : Later w1, m.val.cell? ⟨p, 1, none⟩ = some (.slice Aa na ca) := fun m => later_old m HC.out
  have a1 : ∀ m : Later w1, m.val.cell? ⟨w.heap.size, 0, none⟩ = some (.int .i64 x) := fun m => later_old m HBX.out.cell0
  have a2 : ∀ m : Later w1, m.val.cell? ⟨w.heap.size, 1, none⟩ = some (.int .i64 y) := fun m => later_old m HBX.out.cell1
  have HB1 := Lib.hid (fun m : Later w1 => HBS.out m.val (HX.out.go m.2))
  refine wp_region_later (by kernel_rfl) (by kernel_rfl) ?_
  repeat (go_big_quiet_step (first | (go_at_call 72; exact Calls.later (HB1.out _))))
  refine wpQuiet_nil ?_
  rintro w7 ⟨⟨_, hq⟩, rfl⟩
  have HQ := Lib.hid (Below.then HB0.out hq (Nat.le_refl _))
  have HX7 := Lib.hid (HX.out.go hq)
  have d0 : w7.cell? ⟨p, 1, none⟩ = some (.slice Aa na ca) := (hq.cell (p := ⟨p, 1, none⟩) (lt_of_some HC.out)).trans HC.out
  have d1 : w7.cell? ⟨w.heap.size, 0, none⟩ = some (.int .i64 x) := (HBX.out.go hq).cell0
  have d2 : w7.cell? ⟨w.heap.size, 1, none⟩ = some (.int .i64 y) := (HBX.out.go hq).cell1
  clear hq HB1 HBS HB0 HBX HX HC a0 a1 a2
  cases f with
  | false =>
    have HN : Hid (decide ((x, y) ∈ A) = false) := Lib.hid (decide_eq_false fun hm => by
      have := HF.out.2 ⟨_, HM.out.2 hm, rfl⟩
      cases this)
    go_wp2
    go_quiet (fail)
    go_wp2
    go_ret2
    exact ⟨i, by rw [HN.out]; rfl, HI.out, below_drewN HQ.out _⟩
  | true =>
    have hz : ∃ z, A[i]? = some z ∧ z.1 = x := HF.out.1 rfl
    obtain ⟨⟨zx, zy⟩, hz1, hz2⟩ := hz
    simp only at hz2
    subst hz2
    have hin : i < na := by
      have := (List.getElem?_eq_some_iff.1 hz1).1
      have := HX7.out.len
      omega
    obtain ⟨b, o, u, v, hx, rfl, hb, hc1, hc2, x0, x1, y0, y1⟩ := HX7.out.at_ hin
    rw [hz1] at hx
    cases hx
    have hi1 : (i : Int) < (na : Int) := by omega
    by_cases hy : zy = y
    · subst hy
      have HN : Hid (decide ((zx, zy) ∈ A) = true) := Lib.hid (decide_eq_true (HM.out.1 hz1))
      clear hz1
      go_wp2
      go_quiet (fail)
      go_wp2
      go_ret2
      exact ⟨i, by rw [HN.out]; rfl, HI.out, below_drewN HQ.out _⟩
    · have HN : Hid (decide ((zx, y) ∈ A) = false) := Lib.hid (decide_eq_false fun hm => by
        have h3 := HM.out.2 hm
        rw [hz1] at h3
        cases h3
        exact hy rfl)
      have hy' : (zy == y) = false := by simpa using hy
      clear hz1
      go_wp2
      go_quiet (fail)
      go_wp2
      go_ret2
      exact ⟨i, by rw [HN.out]; simp, HI.out, below_drewN HQ.out _⟩
theorem fits_any (c : Nat → Nat) (k p : Nat) (F A : List (Int × Int)) (n : Int) (w : World) (h : Alc w c k p F A) (hF : F.length ≤ 1000000) :
    Calls Try.prog 50 #[.pointer (some ⟨p, 0, none⟩), .int .i64 n] w fun e w' => e = .returned (.int .i64 (chR F n).2) ∧ Below w.heap.size w w' := by
  have H := Lib.hid (choose_any c k p F A n w h hF)
  generalize chR F n = r at *
  obtain ⟨⟨x, y⟩, z⟩ := r
  clear h
  go_enter Try.func50, Try.ntmps50
  go_wp2_with fail
  refine H.out.mono ?_
  rintro e w2 ⟨rfl, hb2⟩
  have HB2 := Lib.hid hb2
  clear H hb2
  go_wp2
  go_ret
  exact ⟨rfl, HB2.out.alloc HB2.out.size _⟩
theorem has_alc (c : Nat → Nat) (k p : Nat) (F A : List (Int × Int)) (size x y : Int) (w : World) (h : Alc w c k p F A) (hv : Gd size F A) (hA : A.length ≤ 1000000) :
    Calls Try.prog 41 #[.pointer (some ⟨p, 0, none⟩), .agg #[.int .i64 x, .int .i64 y]] w (Tell w (decide ((x, y) ∈ A))) := by
  have hb0 : Below w.heap.size w (w.alloc (.cells #[.int .i64 x, .int .i64 y] 31)) := (Below.refl _ _).alloc (Nat.le_refl _) _
  have HB0 := Lib.hid hb0
  have H := Lib.hid (locate_any c k p F A size x y _ (h.go hb0) hv hA)
  unfold LocE at H
  generalize decide ((x, y) ∈ A) = r at *
  clear h hb0 hv
  go_enter Try.func41, Try.ntmps41
  go_wp2_with fail
  refine H.out.mono ?_
  rintro e w2 ⟨i, rfl, _, hb2⟩
  have HB2 := Lib.hid (Below.then HB0.out hb2 (Nat.le_refl _))
  clear H hb2
  go_wp2
  go_ret
  exact ⟨rfl, HB2.out⟩
theorem freeList_any (c : Nat → Nat) (k p : Nat) (F A : List (Int × Int)) (w : World) (h : Alc w c k p F A) (hF : F.length ≤ 1000000) :
    Calls Try.prog 49 #[.pointer (some ⟨p, 0, none⟩)] w (MadeE w F) := by
  obtain ⟨Af, nf, cf, Aa, na, ca, hcf, hca, hxf, hxa⟩ := h.open_
  have H := Lib.hid (clone_any Af nf cf F w hxf (by have := hxf.len; omega))
  clear hxf hxa hca h
  go_enter Try.func49, Try.ntmps49
  go_wp2_with fail
  refine H.out.mono ?_
  rintro e w2 ⟨v, rfl, ho, hb2⟩
  have HO := Lib.hid ho
  have HB2 := Lib.hid hb2
  clear H hb2 ho
  go_wp2
  go_ret
  exact ⟨_, rfl, HO.out, HB2.out⟩
/-- New, where it accepts the size. -/
theorem new_ok (n : Int) (w : World) (h0 : 0 ≤ n) (h1 : n ≤ 1048576) :
    Calls Try.prog 47 #[.int .i64 n] w fun e w' => ∃ p, e = .returned (.tuple #[.pointer (some ⟨p, 0, none⟩), .int .i64 0]) ∧ w.heap.size ≤ p ∧ Below w.heap.size w w' ∧ ∀ c k, Alc w' (rc c w.heap.size k) k p (cmp 0 [] n) [] := by
  have H := Lib.hid (cmp_any none 0 0 [] n w Exs.none_ (by omega))
  rw [show cmpR [] n = (cmp 0 [] n, 0) by unfold cmpR; rw [if_pos ⟨trivial, h0, h1, h0⟩]] at H
  go_enter Try.func47, Try.ntmps47
  go_wp2_with fail
  refine H.out.mono ?_
  rintro e w2 ⟨v, rfl, ho, hb2⟩
  obtain ⟨A', n', c', rfl, hx'⟩ := ho.shape
  have HO := Lib.hid ho
  have HB2 := Lib.hid hb2
  clear H hb2 ho hx'
  go_wp2
  go_ret2
  refine ⟨w2.heap.size, rfl, HB2.out.size, HB2.out.alloc HB2.out.size _, fun c k => ⟨_, _, heap_alloc_new w2 _, ((HO.out.alloc _).down (Nat.zero_le _)), OwnE.nil _ _ _, rc_new HB2.out.size, fun g hg => ⟨rc_new (HO.out.blk_ge hg), ?_⟩, fun g hg => by cases hg⟩⟩
  have := HO.out.blk_lt hg
  omega
theorem new_bad (n : Int) (w : World) (h0 : ¬ (0 ≤ n ∧ n ≤ 1048576)) :
    Calls Try.prog 47 #[.int .i64 n] w fun e w' => e = .returned (.tuple #[.pointer none, .int .i64 1]) ∧ Below w.heap.size w w' := by
  have H := Lib.hid (cmp_any none 0 0 [] n w Exs.none_ (by omega))
  rw [show cmpR [] n = ([], 1) by unfold cmpR; rw [if_neg (fun h => h0 ⟨h.2.1, h.2.2.1⟩)]] at H
  clear h0
  go_enter Try.func47, Try.ntmps47
  go_wp2_with fail
  refine H.out.mono ?_
  rintro e w2 ⟨v, rfl, ho, hb2⟩
  obtain ⟨A', n', c', rfl, hx'⟩ := ho.shape
  have HB2 := Lib.hid hb2
  clear H hb2 ho hx'
  go_wp2
  go_ret2
  exact ⟨rfl, HB2.out⟩
end Go.Proofs.Ytfchccgajcjbbaa
