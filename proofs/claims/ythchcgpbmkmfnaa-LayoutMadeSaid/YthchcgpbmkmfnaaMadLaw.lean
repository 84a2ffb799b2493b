/-
  The law LayoutMade as a walk. No conditions.
-/
import Derived.Test.YthchcgpbmkmfnaaLyd
import Derived.Test.YthchcgpbmkmfnaaAwk
import Derived.Test.YthchcgpbmkmfnaaTyp
import Derived.Deep.CutRange
namespace Go.Proofs.Ythchcgpbmkmfnaa
open Go.ChangeShapes Go.WideShapes Go.RowKit
set_option linter.unusedVariables false
set_option maxHeartbeats 8000000
set_option maxRecDepth 100000

/-- What the maker of types makes. -/
theorem typ_ok (L : List Int) (i : Nat) : (∀ f ∈ (typV L i).2, errF f = 0 ∧ f.2 ≤ 9) ∧ ((0 < (typV L i).1 ∧ (typV L i).1 ≤ 5 ∧ (typV L i).2.length = 1) ∨ ((typV L i).1 = 0 ∧ 0 < (typV L i).2.length ∧ (typV L i).2.length ≤ 4)) := by
  have h3 : 0 ≤ num L (i + 1) % 5 := Int.emod_nonneg _ (by omega)
  have h4 : num L (i + 1) % 5 < 5 := Int.emod_lt_of_pos _ (by omega)
  have h5 : 0 ≤ num L (i + 1) % 4 := Int.emod_nonneg _ (by omega)
  have h6 : num L (i + 1) % 4 < 4 := Int.emod_lt_of_pos _ (by omega)
  unfold typV
  split
  · refine ⟨fun f hf => ?_, .inl ⟨by dsimp only; omega, by dsimp only; omega, rfl⟩⟩
    simp only [List.mem_singleton] at hf
    subst hf
    exact fldV_ok _
  · refine ⟨fun f hf => flds_ok f hf, .inr ⟨rfl, ?_, ?_⟩⟩ <;> (dsimp only; rw [flds_len]; omega)
section
variable {P : Program}
theorem step_appU (w : World) {ops : Array Oper} {o : Oper} {a : Act} {K : Act → World → Prop} {Q : Exit → Act → World → Prop} {E : Prop} (hgd : o.guard = none) (s x : Operand) (t : TypeId)
    (ho : o.op = .call { callee := .builtin .append, args := #[s, x], argTypes := #[t, t] })
    {e : TypeId} {i : TypeInfo} {z : Value} (ht : P.underlying t = some (.slice e)) (hi : P.info? e = some i) (hz : i.zero = some z) (hzs : z.cells.size = 2) (hsz : i.size = 2) (hby : i.bytes ≤ 64)
    {base : Nat} {v : Value} {xs : List (Int × Int)} (hown : OwnE e w base v xs) (hs : a.eval s = v) {B : Nat} {A : Option Addr} {m c : Nat} {ys : List (Int × Int)} (hy : Exs w B A m c ys) (hx : a.eval x = .slice A m c)
    (hsm : xs.length + m ≤ 4294967296) (hb : base ≤ w.heap.size)
    (h : ∀ v' w', OwnE e w' base v' (xs ++ ys) → Below base w w' → (∀ k, k < w.heap.size → v.ownBlock ≠ some k → w'.heap[k]? = w.heap[k]?) → K (a.put o.dst v') w') :
    if Region.wanted o (yielded ops a.tmps) = true then Oper.wp P o a w K Q else E := by
  have hw : Region.wanted o (yielded ops a.tmps) = true := by simp [Region.wanted, hgd]
  rw [if_pos hw]
  obtain ⟨v', w', hrun, h2, h3, h4, _⟩ := run_appE (P := P) w t o.type e i z ht hi hz hzs hsz hby base v xs hown hy hsm hb
  unfold Oper.wp execOp
  simp only [ho, resolve, invoke, builtin, Sem.run_bind, Sem.run_pure, Result.andThen_ok, List.map_toArray, List.map_cons, List.map_nil, hs, hx, hrun]
  exact h v' w' h2 h3 (fun k hk hne => h4.block k hk (fun e => hne e.symm))
end
theorem OwnE.made0 (t : TypeId) (w : World) : OwnE t (w.alloc (.cells #[] t)) w.heap.size (.slice (some ⟨w.heap.size, 0, none⟩) 0 0) [] := ⟨World.ownsRow_made w #[] 0 (Nat.le_refl _) (Nat.zero_le _) rfl, Fits.nil⟩
theorem ev_row : ∀ l : List (Int × Int), int2.row l = ev l
  | [] => rfl
  | x :: l => by simp only [Enc.row, ev]; rw [ev_row l]; rfl
theorem OwnE.k {t : TypeId} {w : World} {b : Nat} {v : Value} {l : List (Int × Int)} (h : OwnE t w b v l) : OwnK int2 t w b v l := by
  unfold OwnK
  rw [ev_row]
  exact h.1
theorem OwnK.e {t : TypeId} {w : World} {b : Nat} {v : Value} {l : List (Int × Int)} (h : OwnK int2 t w b v l) (hf : Fits l) : OwnE t w b v l := by
  unfold OwnK at h
  rw [ev_row] at h
  exact ⟨h, hf⟩
theorem Fits.set {l : List (Int × Int)} (h : Fits l) (k : Nat) (x : Int × Int) (hx : (-9223372036854775808 ≤ x.1 ∧ x.1 ≤ 9223372036854775807) ∧ (-9223372036854775808 ≤ x.2 ∧ x.2 ≤ 9223372036854775807)) : Fits (l.set k x) := fun y hy => by
  rcases List.mem_or_eq_of_mem_set hy with h1 | rfl
  · exact h y h1
  · exact hx
theorem ob_ne {a b n c : Nat} (h : a ≠ b) : (Value.slice (some ⟨a, 0, none⟩) n c).ownBlock ≠ some b := fun e => h (Option.some.inj e)
theorem TyB.set0 {w : World} {t m c : Nat} {n n' : Int} {A : Option Addr} (h : TyB w t n A m c) : TyB (w.setCell ⟨t, 0, none⟩ (.int .i64 n')) t n' A m c := heap_setCell_same w t 0 _ _ _ h
theorem OwnE.far {t t' : TypeId} {w : World} {base b o : Nat} {v : Value} {l : List (Int × Int)} {cs : Array Value} (h : OwnE t w base v l) (hb : w.heap[b]? = some (.cells cs t' (0, 0))) (hne : t ≠ t') (u : Value) : OwnE t (w.setCell ⟨b, o, none⟩ u) base v l := by
  refine ⟨⟨h.1.1, ?_⟩, h.2⟩
  rcases h.1.2 with h0 | ⟨g, cap, cur, rfl, hbg, hg, hnc, hm, hs, ht⟩
  · exact .inl h0
  · exact .inr ⟨g, cap, cur, rfl, hbg, (Below.heap_setCell w ⟨b, o, none⟩ u g (fun e => by
      simp only at e
      subst e
      rw [hg] at hb
      cases hb
      exact hne rfl)).trans hg, hnc, hm, hs, ht⟩
theorem layoutMade_walk (a0 : Option Addr) (len0 cap0 : Nat) (z0 : List Int) (a1 a2 a3 a4 a5 : Int) (w : World) (w0 : IsRow .u16 w a0 len0 cap0 z0) (w1 : (Lit.int .u16 a1).wf = true) (w2 : (Lit.int .i8 a2).wf = true) (w3 : (Lit.int .u8 a3).wf = true) (w4 : (Lit.int .u8 a4).wf = true) (w5 : (Lit.int .i32 a5).wf = true) :
    Calls Try.prog 4 #[.slice a0 len0 cap0, .int .u16 a1, .int .i8 a2, .int .u8 a3, .int .u8 a4, .int .i32 a5] w fun e w' => e = .returned (.bool true) ∧ Below w.heap.size w w' := by
  obtain ⟨hrow, hfit⟩ := w0.row
  obtain ⟨i0, hi, hz0, hz1, hz2⟩ := info_parts infoFd
  have HI := Lib.hid hi
  have HZ := Lib.hid hz0
  generalize z0.take len0 = L at *
  have HOF := Lib.hid (of_any a0 len0 cap0 L 30 w hrow (by omega))
  have HFT := Lib.hid (hfit.take 30)
  generalize L.take 30 = T at *
  obtain ⟨hok, hnl⟩ := typ_ok T 0
  have HTY := Lib.hid (fun b W (hW : TS W b T 0) => type_any b 0 T W hW HFT.out (by omega))
  obtain ⟨⟨n, l⟩, htv⟩ : ∃ p, typV T 0 = p := ⟨_, rfl⟩
  rw [htv] at HTY hok hnl
  simp only at hok hnl
  have b1 := Go.bounds_u16 w1
  have b2 := Go.bounds_i8 w2
  have b3 := Go.bounds_u8 w3
  have b4 := Go.bounds_u8 w4
  have b5 := Go.bounds_i32 w5
  have HW := Lib.hid (And.intro w1 (And.intro w2 (And.intro w3 (And.intro w4 w5))))
  clear w0 hrow hfit htv w1 w2 w3 w4 w5 hi hz0
  go_enter Try.func4, Try.ntmps4
  go_wp2_with fail
  refine HOF.out.mono ?_
  rintro e w1 ⟨b, rfl, hts, hge, hb1⟩
  have HTS := Lib.hid hts
  have HB1 := Lib.hid hb1
  clear hts hb1 HOF
  go_wp2_with fail
  refine (HTY.out b w1 HTS.out).mono ?_
  rintro e w2 ⟨A, m, c, rfl, hx, hts2, ho⟩
  have hml : l.length = m := hx.len
  obtain ⟨ab, ao, rfl, hj1, hj2⟩ := hx.cells (by omega)
  clear hj1 hj2
  have hb2 := HB1.out.trans (ho.below hge HB1.out.size)
  have hb3 := (Below.refl w2.heap.size w2).alloc (Nat.le_refl _) (.cells #[.int .i64 n, .slice (some ⟨ab, ao, none⟩) m c] 24)
  have HT3 := Lib.hid (TyB.new (w := w2) (n := n) (A := some ⟨ab, ao, none⟩) (m := m) (c := c))
  have HX3 := Lib.hid (hx.go hb3)
  have HB3 := Lib.hid (Below.then hb2 hb3 (Nat.le_refl _))
  have hsz2 := hb2.size
  have hcap := hx.cap
  have hsm := hx.small
  unfold maxLen at hsm
  clear hx hts2 ho hb2 hb3 HTS HB1 HTY
  go_wp2_with fail
  generalize w2.alloc (.cells #[.int .i64 n, .slice (some ⟨ab, ao, none⟩) m c] 24) = w3 at *
  have hs3 : w2.heap.size < w3.heap.size := HT3.out.lt
  generalize w2.heap.size = tb at *
  have hml2 : l.length ≤ 4 := by omega
  have hd3 : Below w3.heap.size w3 w3.drew := below_drewN (Below.refl _ _) 1
  have hds : w3.drew.heap.size = w3.heap.size := rfl
  have HX4 := Lib.hid ((HX3.out.go hd3))
  have HT4 := Lib.hid (HT3.out.go hd3)
  have HD := Lib.hid hd3
  have c0 := HT4.out.cell0
  have c1 := HT4.out.cell1
  have r0 := HT3.out.cell0
  have r1 := HT3.out.cell1
  clear hd3
  have HLL := Lib.hid hml2
  have HXB : Hid (((w3.drew.alloc (.cells #[] 36)).alloc (.cells #[.int .i64 0, .slice none 0 0] 24)).heap[w3.heap.size + 1]? = some (.cells #[.int .i64 0, .slice none 0 0] 24)) := Lib.hid (by have := heap_alloc_new (w3.drew.alloc (.cells #[] 36)) (.cells #[.int .i64 0, .slice none 0 0] 24); simpa using this)
  have HXC : Hid (((w3.drew.alloc (.cells #[.int .i64 0, .slice none 0 0] 24)).alloc (.cells #[] 36)).heap[w3.heap.size]? = some (.cells #[.int .i64 0, .slice none 0 0] 24)) := Lib.hid (((((Below.refl (w3.drew.alloc (.cells #[.int .i64 0, .slice none 0 0] 24)).heap.size _).alloc (Nat.le_refl _) (.cells #[] 36))).block w3.heap.size (by simp)).trans (heap_alloc_new w3.drew (.cells #[.int .i64 0, .slice none 0 0] 24)))
  have HOC : Hid (OwnE 36 ((w3.drew.alloc (.cells #[.int .i64 0, .slice none 0 0] 24)).alloc (.cells #[] 36)) (w3.heap.size + 1) (.slice (some ⟨w3.heap.size + 1, 0, none⟩) 0 0) []) := Lib.hid (by have := OwnE.made0 36 (w3.drew.alloc (.cells #[.int .i64 0, .slice none 0 0] 24)); simpa using this)
  go_cut [14] from 20 to 26 (fun s14 wx => ∃ (ub : Nat) (A5 : Option Addr) (n5 c5 : Nat), s14 = .pointer (some ⟨ub, 0, none⟩) ∧ Hid (w3.heap.size ≤ ub ∧ TyB wx ub n A5 n5 c5 ∧ OwnE 36 wx w3.heap.size (.slice A5 n5 c5) l ∧ Below w3.heap.size w3 wx))
  case first =>
    go_region_law
      (first
        | (refine step_appU (w3.drew.alloc (.cells #[] 36)) rfl (.tmp 22) (.tmp 24) 22 rfl Try.underlying22 HI.out HZ.out rfl hz1 (by omega) (OwnE.made0 _ _) rfl (HX4.out.alloc _) rfl (by have := HLL.out; simp; omega) (by simp <;> omega) ?_
           intro v5 w5 ho5 hb5 hg5
           obtain ⟨A5, n5, c5, rfl, hx5⟩ := ho5.shape
           have HO5 : Hid (OwnE 36 w5 w3.heap.size (.slice A5 n5 c5) l) := Lib.hid (ho5.down (Nat.le_refl _))
           have HB5 : Hid (Below w3.heap.size w3 w5) := Lib.hid ((HD.out.alloc (Nat.le_refl _) _).trans (hb5.mono (Nat.le_refl _)))
           have hz5 : tb < w5.heap.size := Nat.lt_of_lt_of_le hs3 HB5.out.size
           have d0 := (HT3.out.go HB5.out).cell0
           have d1 := (HT3.out.go HB5.out).cell1
           clear ho5 hb5 hg5 hx5)
        | (refine step_appU ((w3.drew.alloc (.cells #[.int .i64 0, .slice none 0 0] 24)).alloc (.cells #[] 36)) rfl (.tmp 22) (.tmp 24) 22 rfl Try.underlying22 HI.out HZ.out rfl hz1 (by omega) HOC.out rfl ((HX4.out.alloc _).below (((Below.refl _ _).alloc (by simp) _))) rfl (by have := HLL.out; simp; omega) (by simp <;> omega) ?_
           intro v5 w5 ho5 hb5 hg5
           obtain ⟨A5, n5, c5, rfl, hx5⟩ := ho5.shape
           have HO5 : Hid (OwnE 36 w5 w3.heap.size (.slice A5 n5 c5) l) := Lib.hid (ho5.down (by simp <;> omega))
           have HB5 : Hid (Below w3.heap.size w3 w5) := Lib.hid (((HD.out.alloc (Nat.le_refl _) _).alloc (by simp <;> omega) _).trans (hb5.mono (by simp <;> omega)))
           have hz5 : tb < w5.heap.size := Nat.lt_of_lt_of_le hs3 HB5.out.size
           have d0 := (HT3.out.go HB5.out).cell0
           have d1 := (HT3.out.go HB5.out).cell1
           have HU5 : Hid (TyB w5 (w3.heap.size) 0 none 0 0) := Lib.hid ((hg5 _ (by simp <;> omega) (ob_ne (Nat.succ_ne_self _))).trans (HXC.out))
           have u0 := HU5.out.cell0
           have u1 := HU5.out.cell1
           have u2 := HU5.out.fr 0
           have u3 := HU5.out.fr 1
           clear ho5 hb5 hg5 hx5)
        | (refine step_appU ((w3.drew.alloc (.cells #[] 36)).alloc (.cells #[.int .i64 0, .slice none 0 0] 24)) rfl (.tmp 22) (.tmp 24) 22 rfl Try.underlying22 HI.out HZ.out rfl hz1 (by omega) ((OwnE.made0 _ _).alloc _) rfl ((HX4.out.alloc _).below (((Below.refl _ _).alloc (by simp) _))) rfl (by have := HLL.out; simp; omega) (by simp <;> omega) ?_
           intro v5 w5 ho5 hb5 hg5
           obtain ⟨A5, n5, c5, rfl, hx5⟩ := ho5.shape
           have HO5 : Hid (OwnE 36 w5 w3.heap.size (.slice A5 n5 c5) l) := Lib.hid (ho5.down (Nat.le_refl _))
           have HB5 : Hid (Below w3.heap.size w3 w5) := Lib.hid (((HD.out.alloc (Nat.le_refl _) _).alloc (by simp) _).trans (hb5.mono (Nat.le_refl _)))
           have hz5 : tb < w5.heap.size := Nat.lt_of_lt_of_le hs3 HB5.out.size
           have d0 := (HT3.out.go HB5.out).cell0
           have d1 := (HT3.out.go HB5.out).cell1
           have HU5 : Hid (TyB w5 (w3.heap.size + 1) 0 none 0 0) := Lib.hid ((hg5 _ (by simp <;> omega) (ob_ne (Nat.ne_of_lt (Nat.lt_succ_self _)))).trans (HXB.out))
           have u0 := HU5.out.cell0
           have u1 := HU5.out.cell1
           have u2 := HU5.out.fr 0
           have u3 := HU5.out.fr 1
           clear ho5 hb5 hg5 hx5))
    all_goals
      go_wp2_with fail
      go_meet
      first
        | exact ⟨_, A5, n5, c5, rfl, Lib.hid ⟨HB5.out.size, TyB.new, HO5.out.alloc _, HB5.out.alloc HB5.out.size _⟩⟩
        | exact ⟨w3.heap.size + 1, A5, n5, c5, rfl, Lib.hid ⟨by omega, HU5.out.set, (HO5.out.far HU5.out (by decide) _).far HU5.out.set0 (by decide) _, (HB5.out.setCell (p := ⟨_, 0, none⟩) (by simp only; omega) _).setCell (p := ⟨_, 1, none⟩) (by simp only; omega) _⟩⟩
        | exact ⟨w3.heap.size, A5, n5, c5, rfl, Lib.hid ⟨by omega, HU5.out.set, (HO5.out.far HU5.out (by decide) _).far HU5.out.set0 (by decide) _, (HB5.out.setCell (p := ⟨_, 0, none⟩) (by simp only; omega) _).setCell (p := ⟨_, 1, none⟩) (by simp only; omega) _⟩⟩
  case rest =>
    obtain ⟨ub, A5, n5, c5, rfl, hh⟩ := hcut
    clear HXB HXC HOC HX4 HT4 HD hds HLL HI HZ c0 c1 r0 r1 hz1 hz2
    obtain ⟨hub, htu, hou, hbu⟩ := hh.out
    obtain ⟨A5', n5', c5', e5, hxu⟩ := hou.shape
    cases e5
    obtain rfl : n5 = m := by rw [← hxu.len, hml]
    have hk0 : 0 ≤ a3 % (n5 : Int) := Int.emod_nonneg _ (by omega)
    have hk1 : a3 % (n5 : Int) < n5 := Int.emod_lt_of_pos _ (by omega)
    have hrem : a3.tmod (n5 : Int) = a3 % (n5 : Int) := Int.tmod_eq_emod_of_nonneg (by omega)
    obtain ⟨k, hk⟩ := Int.eq_ofNat_of_zero_le hk0
    rw [hk] at hrem hk1 hk0
    have hkl : k < l.length := by omega
    have hz : ¬ (n5 : Int) = 0 := by omega
    have hkm : (k : Int) < (n5 : Int) := by omega
    have hcap5 := hxu.cap
    have hsm5 := hxu.small
    unfold maxLen at hsm5
    obtain ⟨g, cap, cur, R, e6, hg0, hj3, hj4, hj5⟩ := hou.k.opn (by omega)
    clear hj3 hj4 hj5
    rw [hml] at e6
    cases e6
    have HOU := Lib.hid hou
    have HBU := Lib.hid hbu
    have HTU := Lib.hid htu
    have v0 : ∀ q : Later wc, q.val.cell? ⟨ub, 0, none⟩ = some (.int .i64 n) := fun q => later_old q HTU.out.cell0
    have v1 : ∀ q : Later wc, q.val.cell? ⟨ub, 1, none⟩ = some (.slice (some ⟨g, 0, none⟩) n5 c5) := fun q => later_old q HTU.out.cell1
    clear hh hou hbu htu hxu
    go_wp2_with fail
    refine wp_region_later (by kernel_rfl) (by kernel_rfl) ?_
    repeat (go_big_quiet_step (fail))
    refine wpQuiet_nil ?_
    rintro w7 ⟨⟨_, hq⟩, rfl⟩
    have hou := HOU.out.below hq
    have hbu := Below.then HBU.out hq (Nat.le_refl _)
    have htu := HTU.out.go hq
    obtain ⟨⟨u, v⟩, hu⟩ : ∃ x, l[k]? = some x := ⟨l[k], List.getElem?_eq_getElem hkl⟩
    obtain ⟨g9, cap, cur, R, e6, hj6, hg1, hgg, hj7⟩ := hou.k.opn (by omega)
    clear hj6 hj7
    cases e6
    have hgu : ub ≠ g := fun e => by
      subst e
      unfold TyB at htu
      rw [hgg] at htu
      injection htu with h1
      injection h1 with _ h2
      exact absurd h2 (by decide)
    have hq0 : 0 ≤ a4 % 9 := Int.emod_nonneg _ (by omega)
    have hq1 : a4 % 9 < 9 := Int.emod_lt_of_pos _ (by omega)
    obtain ⟨q, hqq⟩ : ∃ q, a4 % 9 = q := ⟨_, rfl⟩
    rw [hqq] at hq0 hq1
    obtain ⟨g', cap', e7, _, _, s1, s2, s3⟩ := hou.k.store (j := 0) (y := (q - 1, v)) (u' := .int .i64 (q - 1)) hu rfl rfl
    cases e7
    have hu2 : (l.set k (q - 1, v))[k]? = some (q - 1, v) := by rw [List.getElem?_set_self hkl]
    obtain ⟨g'', cap'', e8, _, _, s4, s5, s6⟩ := s3.store (j := 1) (y := (q - 1, a5)) (u' := .int .i64 a5) hu2 rfl rfl
    injection e8 with e81 e82 e83
    injection e81 with e81
    injection e81 with e81
    clear e82 e83
    subst e81
    rw [List.set_set] at s6
    have hf6 : Fits (l.set k (q - 1, a5)) := hou.2.set k _ ⟨by dsimp only; omega, by dsimp only; omega⟩
    have ho6 := s6.e hf6
    simp only [show int2.k = 2 from rfl, Nat.add_zero] at s1 s2 s3 s4 s5 s6 ho6
    have htu2 := (htu.apart (o := k * 2) hgu (.int .i64 (q - 1))).apart (o := k * 2 + 1) hgu (.int .i64 a5)
    have hb6 := (hbu.setCell (p := ⟨g, k * 2, none⟩) hg0 (.int .i64 (q - 1))).setCell (p := ⟨g, k * 2 + 1, none⟩) hg0 (.int .i64 a5)
    have HO6 := Lib.hid ho6
    have HU6 := Lib.hid htu2
    have HT6 := Lib.hid (HT3.out.go hb6)
    have HB6 := Lib.hid hb6
    have hs6 : tb < ((w7.setCell ⟨g, k * 2, none⟩ (.int .i64 (q - 1))).setCell ⟨g, k * 2 + 1, none⟩ (.int .i64 a5)).heap.size := HT6.out.lt
    have t0 := (HT3.out.go hbu).cell0
    have t1 := (HT3.out.go hbu).cell1
    have hne1 : ¬ tb = g := by omega
    have hne2 : ¬ g = tb := by omega
    have hlc : 1 ≤ c := by omega
    have hlc2 : (1 : Int) ≤ (c : Int) := by omega
    clear hq hou hbu htu htu2 hb6 ho6 hf6 s3 s6 hgg hu hu2 v0 v1 HOU HBU HTU
    have y1 := HT6.out.cell1
    clear hml t0 t1 hne1 hne2
    obtain ⟨w8, hw8⟩ : ∃ w8, (w7.setCell ⟨g, k * 2, none⟩ (.int .i64 (q - 1))).setCell ⟨g, k * 2 + 1, none⟩ (.int .i64 a5) = w8 := ⟨_, rfl⟩
    rw [hw8] at HT6 HU6 HB6 HO6 hs6
    have hb9 := (Below.refl w8.heap.size w8).alloc (Nat.le_refl _) (.cells #[.int .i64 a1, .slice (some ⟨ab, ao, none⟩) 1 c] 24)
    have HV9 := Lib.hid (TyB.new (w := w8) (n := a1) (A := some ⟨ab, ao, none⟩) (m := 1) (c := c))
    have HT9 := Lib.hid (HT6.out.go hb9)
    have HU9 := Lib.hid (HU6.out.go hb9)
    have HB9 := Lib.hid (Below.then HB6.out hb9 (Nat.le_refl _))
    obtain ⟨A5, n5, c5', e9, hxu9⟩ := (HO6.out.below hb9).shape
    cases e9
    have HXU9 := Lib.hid hxu9
    have HXT9 := Lib.hid ((HX3.out.below HB6.out).more HB6.out.size |>.go hb9)
    have HXV9 := Lib.hid (((HX3.out.below HB6.out).more HB6.out.size |>.go hb9).take (k := 1) (by omega))
    clear hxu9
    have hvb : w8.heap.size = w7.heap.size := by rw [← hw8]; simp [World.setCell]
    rw [hvb] at HV9
    have HW8 := Lib.hid hw8
    have hlm : l.length ≤ 40 := by omega
    clear hb9 HT6 HU6 HB6 HO6 hw8 hvb
    go_wp2_with fail
    rw [HW8.out]
    clear s1 s2 s4 s5 hs6 y1
    generalize w8.alloc (.cells #[.int .i64 a1, .slice (some ⟨ab, ao, none⟩) 1 c] 24) = w9 at *
    generalize w7.heap.size = vb at *
    clear HW8
    refine (awake8_any lc w9).mono ?_
    rintro e w10 ⟨rfl, hb⟩
    have HT10 := Lib.hid (HT9.out.go hb)
    have HU10 := Lib.hid (HU9.out.go hb)
    have HV10 := Lib.hid (HV9.out.go hb)
    have HXT10 := Lib.hid (HXT9.out.go hb)
    have HXU10 := Lib.hid (HXU9.out.go hb)
    have HXV10 := Lib.hid (HXV9.out.go hb)
    have HB10 := Lib.hid (Below.then HB9.out hb (Nat.le_refl _))
    clear hb HT9 HU9 HV9 HXT9 HXU9 HXV9 HB9
    have c0 := HT10.out.cell0
    have c1 := HT10.out.cell1
    go_wp2_with fail
    refine (same_any lc n a2 _ _ c l w10 HXT10.out hlm).mono ?_
    rintro e w11 ⟨rfl, hb⟩
    have HU11 := Lib.hid (HU10.out.go hb)
    have HV11 := Lib.hid (HV10.out.go hb)
    have HXU11 := Lib.hid (HXU10.out.go hb)
    have HXV11 := Lib.hid (HXV10.out.go hb)
    have HB11 := Lib.hid (Below.then HB10.out hb (Nat.le_refl _))
    clear hb HT10 HU10 HV10 HXT10 HXU10 HXV10 HB10 c0 c1
    have c0 := HU11.out.cell0
    have c1 := HU11.out.cell1
    go_wp2_with fail
    refine (same_any lc n a2 _ _ _ _ w11 HXU11.out hlm).mono ?_
    rintro e w12 ⟨rfl, hb⟩
    have HV12 := Lib.hid (HV11.out.go hb)
    have HXV12 := Lib.hid (HXV11.out.go hb)
    have HB12 := Lib.hid (Below.then HB11.out hb (Nat.le_refl _))
    clear hb HU11 HV11 HXU11 HXV11 HB11 c0 c1
    have c0 := HV12.out.cell0
    have c1 := HV12.out.cell1
    go_wp2_with fail
    refine (same_any lc a1 a2 _ _ _ _ w12 HXV12.out (by omega)).mono ?_
    rintro e w13 ⟨rfl, hb⟩
    have HB13 := Lib.hid (Below.then HB3.out (Below.then HB12.out hb (Nat.le_refl _)) (by omega))
    clear hb HV12 HXV12 HB12 c0 c1
    go_wp2
    go_ret
    exact ⟨rfl, HB13.out⟩
end Go.Proofs.Ythchcgpbmkmfnaa
