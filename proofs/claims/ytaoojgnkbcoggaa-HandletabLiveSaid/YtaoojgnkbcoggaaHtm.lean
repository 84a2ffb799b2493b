/-
  A table of handles in memory, the landed one and the model's alike: a pointer to slots, and a row of entries. What it means that a block holds one, how that is kept, calls of the slots, stores into an entry. No conditions beyond those that each lemma states.
-/
import Derived.Test.YtaoojgnkbcoggaaHst
import Derived.Test.YtaoojgnkbcoggaaGpl
import Derived.Test.YtaoojgnkbcoggaaGst2
namespace Go.Proofs.Ytaoojgnkbcoggaa
open Go.ChangeShapes Go.WideShapes Go.RowKit
set_option linter.unusedVariables false
set_option maxHeartbeats 4000000
set_option maxRecDepth 100000

/-- An entry as cells. -/
def en5 : Enc En where
  k := 5
  ev := fun x => [.int .u64 x.h, .int .i64 x.o, .int .i64 x.t, .int .i64 x.f, .int .i64 x.l]
  len := fun _ => rfl
  one := fun x u hu => by
    simp only [List.mem_cons, List.not_mem_nil, or_false] at hu
    rcases hu with rfl | rfl | rfl | rfl | rfl <;> rfl
  pos := by omega
/-- An entry as a value. -/
def enV (x : En) : Value := .agg #[.int .u64 x.h, .int .i64 x.o, .int .i64 x.t, .int .i64 x.f, .int .i64 x.l]
theorem infoEn : (Try.prog.info? 44).map (fun i => (i.zero, i.size, i.bytes)) = some (some (.agg #[.int .u64 0, .int .i64 0, .int .i64 0, .int .i64 0, .int .i64 0]), 5, 40) := by kernel_rfl
/-- What a call that writes blocks of another colour leaves. -/
structure KeptLaw (Sl : World → (Nat → Nat) → Nat → Nat → Gs → Prop) : Prop where
  k : ∀ {w w' : World} {c c' : Nat → Nat} {k j p : Nat} {s : Gs}, Sl w c k p s → Kept c j w w' → j ≠ k → (∀ g, g < w.heap.size → c' g = c g) → Sl w' c' k p s
theorem kl_sls : KeptLaw Sls := ⟨fun h hk hjk hc => pc_landed.kept h hk hjk hc⟩
theorem kl_mgs : KeptLaw Mgs := ⟨fun h hk hjk hc => h.kept hk hjk hc⟩
/-- The block p holds a table: its slots at q (a colouring d of their own), its row of entries v; what it writes has the colour k. -/
structure Inx (Sl : World → (Nat → Nat) → Nat → Nat → Gs → Prop) (ty : TypeId) (w : World) (c d : Nat → Nat) (k p q : Nat) (v : Value) (s : Gs) (l : List En) : Prop where
  hp : w.heap[p]? = some (.cells #[.pointer (some ⟨q, 0, none⟩), v] ty (0, 0))
  own : OwnK en5 44 w 0 v l
  sl : Sl w d 1 q s
  cp : c p = k
  dp : d p = 0
  cv : ∀ g, v.ownBlock = some g → c g = k ∧ d g = 0 ∧ g ≠ p
  cd : ∀ g, g < w.heap.size → d g = 1 ∧ c g = k ∨ d g = 0
def Inn (Sl : World → (Nat → Nat) → Nat → Nat → Gs → Prop) (ty : TypeId) (w : World) (c : Nat → Nat) (k p : Nat) (s : Gs) (l : List En) : Prop := ∃ d q v, Inx Sl ty w c d k p q v s l
section
variable {Sl : World → (Nat → Nat) → Nat → Nat → Gs → Prop} {ty : TypeId} {w w' : World} {c c' d : Nat → Nat} {k j p q i : Nat} {v : Value} {s s' : Gs} {l : List En}
theorem Inx.lt (h : Inx Sl ty w c d k p q v s l) : p < w.heap.size := (Array.getElem?_eq_some_iff.1 h.hp).1
theorem Inn.lt (h : Inn Sl ty w c k p s l) : p < w.heap.size := by
  obtain ⟨d, q, v, h⟩ := h
  exact h.lt
theorem Inn.cp (h : Inn Sl ty w c k p s l) : c p = k := by
  obtain ⟨d, q, v, h⟩ := h
  exact h.cp
theorem Inx.kd (h : Inx Sl ty w c d k p q v s l) (hk : Kept c j w w') (hjk : j ≠ k) : Kept d 0 w w' := ⟨hk.os, hk.tape, hk.output, hk.size, fun g hg hne => hk.block g hg (by
    rcases h.cd g hg with e | e
    · rw [e.2]
      omega
    · exact absurd e hne)⟩
theorem Inx.kept (K : KeptLaw Sl) (h : Inx Sl ty w c d k p q v s l) (hk : Kept c j w w') (hjk : j ≠ k) (hc : ∀ g, g < w.heap.size → c' g = c g) : Inx Sl ty w' c' (fun g => if g < w.heap.size then d g else 0) k p q v s l := by
  have hlt := h.lt
  refine ⟨(hk.block p hlt (by rw [h.cp]; omega)).trans h.hp, h.own.keptC hk (fun g hg => by rw [(h.cv g hg).1]; omega), K.k h.sl (h.kd hk hjk) (by omega) (fun g hg => if_pos hg), (hc p hlt).trans h.cp, by simp only [if_pos hlt]; exact h.dp, fun g hg => ?_, fun g hg => ?_⟩
  · have hgl := (h.own.ge hg).2
    simp only [if_pos hgl]
    exact ⟨(hc g hgl).trans (h.cv g hg).1, (h.cv g hg).2⟩
  · by_cases hgl : g < w.heap.size
    · simp only [if_pos hgl]
      rw [hc g hgl]
      exact h.cd g hgl
    · exact .inr (if_neg hgl)
theorem Inn.kept (K : KeptLaw Sl) (h : Inn Sl ty w c k p s l) (hk : Kept c j w w') (hjk : j ≠ k) (hc : ∀ g, g < w.heap.size → c' g = c g) : Inn Sl ty w' c' k p s l := by
  obtain ⟨d, q, v, h⟩ := h
  exact ⟨_, q, v, h.kept K hk hjk hc⟩
theorem Inn.go (K : KeptLaw Sl) (h : Inn Sl ty w c k p s l) (hb : Below w.heap.size w w') : Inn Sl ty w' c k p s l := h.kept K (j := k + 1) (Kept.ofBelow hb) (by omega) (fun _ _ => rfl)
theorem Inn.recol (K : KeptLaw Sl) (h : Inn Sl ty w c k p s l) (hc : ∀ g, g < w.heap.size → c' g = c g) : Inn Sl ty w c' k p s l := h.kept K (j := k + 1) (Kept.refl) (by omega) hc
/-- What lies in the block, and in its row. -/
theorem Inn.cells (h : Inn Sl ty w c k p s l) : ∃ A n cap d q, w.cell? ⟨p, 0, none⟩ = some (.pointer (some ⟨q, 0, none⟩)) ∧ w.cell? ⟨p, 1, none⟩ = some (.slice A n cap) ∧ Kws en5 w w.heap.size A n cap l ∧ Sl w d 1 q s := by
  obtain ⟨d, q, v, h⟩ := h
  obtain ⟨A, n, cap, rfl, hk⟩ := h.own.shape
  exact ⟨A, n, cap, d, q, cell_of_row w p 0 _ _ _ h.hp, cell_of_row w p 1 _ _ _ h.hp, hk, h.sl⟩
/-- A call that writes the slots only. -/
theorem Inn.inner (K : KeptLaw Sl) (h : Inn Sl ty w c k p s l) : ∃ q d, w.cell? ⟨p, 0, none⟩ = some (.pointer (some ⟨q, 0, none⟩)) ∧ Sl w d 1 q s ∧
    ∀ w' s', Sl w' (rc d w.heap.size 1) 1 q s' → Kept d 1 w w' → Inn Sl ty w' (rc c w.heap.size k) k p s' l ∧ Kept c k w w' := by
  obtain ⟨d0, q, v, h⟩ := h
  have hp := h.lt
  refine ⟨q, d0, cell_of_row w p 0 _ _ _ h.hp, h.sl, fun w' s' hS hk => ?_⟩
  have hkc : Kept c k w w' := ⟨hk.os, hk.tape, hk.output, hk.size, fun g hg hne => hk.block g hg (fun e => by
      rcases h.cd g hg with e1 | e1
      · exact hne e1.2
      · omega)⟩
  refine ⟨⟨_, q, v, (hk.block p hp (by rw [h.dp]; omega)).trans h.hp, h.own.keptC hk (fun g hg => by rw [(h.cv g hg).2.1]; omega), hS, (rc_old hp).trans h.cp, (rc_old hp).trans h.dp, fun g hg => ?_, fun g hg => ?_⟩, hkc⟩
  · have hgl := (h.own.ge hg).2
    exact ⟨(rc_old hgl).trans (h.cv g hg).1, (rc_old hgl).trans (h.cv g hg).2.1, (h.cv g hg).2.2⟩
  · by_cases hgl : g < w.heap.size
    · rw [rc_old hgl, rc_old hgl]
      exact h.cd g hgl
    · rw [rc_new (by omega), rc_new (by omega)]
      exact .inl ⟨rfl, rfl⟩
/-- A store into a field of an entry. -/
theorem Inx.put (K : KeptLaw Sl) {g n cap : Nat} (h : Inx Sl ty w c d k p q (.slice (some ⟨g, 0, none⟩) n cap) s l) {u u' : Value} {x y : En} {o : Nat} (hx : l[i]? = some x) (hu : (en5.ev x)[o]? = some u) (hy : en5.ev y = (en5.ev x).set o u') :
    w.cell? ⟨g, i * 5 + o, none⟩ = some u ∧ w.frozen? ⟨g, i * 5 + o, none⟩ = false ∧ Inx Sl ty (w.setCell ⟨g, i * 5 + o, none⟩ u') c d k p q (.slice (some ⟨g, 0, none⟩) n cap) s (l.set i y) ∧ Kept c k w (w.setCell ⟨g, i * 5 + o, none⟩ u') := by
  obtain ⟨g', cap', e, _, _, q1, q2, q3⟩ := h.own.store hx hu hy
  cases e
  have hs := run_setAt w g (i * 5 + o) u'
  have h5g := h.cv g rfl
  have hp := h.lt
  have e1 : ∀ r, r < w.heap.size → d r = d r := fun _ _ => rfl
  refine ⟨q1, q2, ⟨(hs.block p hp (fun e => h5g.2.2 (Option.some.inj e).symm)).trans h.hp, q3, K.k h.sl (j := 0) (Kept.ofGrown hs (fun r e => by cases e; exact h5g.2.1)) (by omega) e1, h.cp, h.dp, h.cv, fun r hr => h.cd r (by simpa [World.setCell] using hr)⟩, Kept.ofGrown hs (fun r e => by cases e; exact h5g.1)⟩
theorem Inx.num {A : Option Addr} {n cap : Nat} (h : Inx Sl ty w c d k p q (.slice A n cap) s l) : n = l.length := h.own.num
/-- A whole entry is stored. -/
theorem Inx.put5 (K : KeptLaw Sl) {g n cap : Nat} (h : Inx Sl ty w c d k p q (.slice (some ⟨g, 0, none⟩) n cap) s l) {x : En} (hx : l[i]? = some x) (y : En) {w1 w2 w3 w4 w5 : World} (e1 : w1 = w.setCell ⟨g, i * 5, none⟩ (.int .u64 y.h)) (e2 : w2 = w1.setCell ⟨g, i * 5 + 1, none⟩ (.int .i64 y.o))
    (e3 : w3 = w2.setCell ⟨g, i * 5 + 2, none⟩ (.int .i64 y.t)) (e4 : w4 = w3.setCell ⟨g, i * 5 + 3, none⟩ (.int .i64 y.f)) (e5 : w5 = w4.setCell ⟨g, i * 5 + 4, none⟩ (.int .i64 y.l)) :
    (w.cell? ⟨g, i * 5, none⟩ = some (.int .u64 x.h) ∧ w.frozen? ⟨g, i * 5, none⟩ = false) ∧ (w1.cell? ⟨g, i * 5 + 1, none⟩ = some (.int .i64 x.o) ∧ w1.frozen? ⟨g, i * 5 + 1, none⟩ = false) ∧ (w2.cell? ⟨g, i * 5 + 2, none⟩ = some (.int .i64 x.t) ∧ w2.frozen? ⟨g, i * 5 + 2, none⟩ = false) ∧
      (w3.cell? ⟨g, i * 5 + 3, none⟩ = some (.int .i64 x.f) ∧ w3.frozen? ⟨g, i * 5 + 3, none⟩ = false) ∧ (w4.cell? ⟨g, i * 5 + 4, none⟩ = some (.int .i64 x.l) ∧ w4.frozen? ⟨g, i * 5 + 4, none⟩ = false) ∧
      Inx Sl ty w5 c d k p q (.slice (some ⟨g, 0, none⟩) n cap) s (l.set i y) ∧ Kept c k w w5 := by
  have hi : i < l.length := (List.getElem?_eq_some_iff.1 hx).1
  have hat : ∀ z : En, (l.set i z)[i]? = some z := fun z => List.getElem?_set_self hi
  obtain ⟨x1, x2, x3, x4, x5⟩ := x
  obtain ⟨y1, y2, y3, y4, y5⟩ := y
  obtain ⟨a1, a2, h1, k1⟩ := h.put K (o := 0) (y := ⟨y1, x2, x3, x4, x5⟩) (u' := .int .u64 y1) hx rfl rfl
  rw [Nat.add_zero] at a1 a2 h1 k1
  simp only at e1 e2 e3 e4 e5
  rw [← e1] at h1 k1
  obtain ⟨b1, b2, h2, k2⟩ := h1.put K (o := 1) (y := ⟨y1, y2, x3, x4, x5⟩) (u' := .int .i64 y2) (hat _) rfl rfl
  rw [← e2] at h2 k2
  rw [List.set_set] at h2
  obtain ⟨c1, c2, h3, k3⟩ := h2.put K (o := 2) (y := ⟨y1, y2, y3, x4, x5⟩) (u' := .int .i64 y3) (hat _) rfl rfl
  rw [← e3] at h3 k3
  rw [List.set_set] at h3
  obtain ⟨d1, d2, h4, k4⟩ := h3.put K (o := 3) (y := ⟨y1, y2, y3, y4, x5⟩) (u' := .int .i64 y4) (hat _) rfl rfl
  rw [← e4] at h4 k4
  rw [List.set_set] at h4
  obtain ⟨f1, f2, h5, k5⟩ := h4.put K (o := 4) (y := ⟨y1, y2, y3, y4, y5⟩) (u' := .int .i64 y5) (hat _) rfl rfl
  rw [← e5] at h5 k5
  rw [List.set_set] at h5
  exact ⟨⟨a1, a2⟩, ⟨b1, b2⟩, ⟨c1, c2⟩, ⟨d1, d2⟩, ⟨f1, f2⟩, h5, (((k1.trans k2).trans k3).trans k4).trans k5⟩
/-- The row of a table, laid open. -/
theorem Inn.opn (h : Inn Sl ty w c k p s l) (hl : 0 < l.length) : ∃ d q g cap, Inx Sl ty w c d k p q (.slice (some ⟨g, 0, none⟩) l.length cap) s l ∧ w.cell? ⟨p, 1, none⟩ = some (.slice (some ⟨g, 0, none⟩) l.length cap) ∧ l.length ≤ cap ∧ cap ≤ maxLen := by
  obtain ⟨d, q, v, h⟩ := h
  obtain ⟨g, cap, cur, R, rfl, _, _, _, hlc, hcm, _⟩ := h.own.opn hl
  exact ⟨d, q, g, cap, h, cell_of_row w p 1 _ _ _ h.hp, hlc, hcm⟩
theorem Kws.en_at {B n cap : Nat} {A : Option Addr} (h : Kws en5 w B A n cap l) (hi : i < n) :
    ∃ g o x, l[i]? = some x ∧ A = some ⟨g, o, none⟩ ∧ g < B ∧ w.cell? ⟨g, o + i * 5, none⟩ = some (.int .u64 x.h) ∧ w.cell? ⟨g, o + i * 5 + 1, none⟩ = some (.int .i64 x.o) ∧ w.cell? ⟨g, o + i * 5 + 2, none⟩ = some (.int .i64 x.t) ∧ w.cell? ⟨g, o + i * 5 + 3, none⟩ = some (.int .i64 x.f) ∧ w.cell? ⟨g, o + i * 5 + 4, none⟩ = some (.int .i64 x.l) := by
  obtain ⟨g, o, x, h1, h2, h3, h4⟩ := h.at_ hi
  exact ⟨g, o, x, h1, h2, h3, h4 0 _ rfl, h4 1 _ rfl, h4 2 _ rfl, h4 3 _ rfl, h4 4 _ rfl⟩
end
/-- The landed table, and the model's. -/
def Htb (w : World) (c : Nat → Nat) (k p : Nat) (t : Ht) : Prop := Inn Sls 63 w c k p t.s t.pe
def Hmb (w : World) (c : Nat → Nat) (k p : Nat) (t : Ht) : Prop := Inn Mgs 76 w c k p t.s t.e
section
variable {w w' : World} {c c' : Nat → Nat} {k j p : Nat} {t : Ht}
theorem Htb.kept (h : Htb w c k p t) (hk : Kept c j w w') (hjk : j ≠ k) (hc : ∀ g, g < w.heap.size → c' g = c g) : Htb w' c' k p t := Inn.kept kl_sls h hk hjk hc
theorem Hmb.kept (h : Hmb w c k p t) (hk : Kept c j w w') (hjk : j ≠ k) (hc : ∀ g, g < w.heap.size → c' g = c g) : Hmb w' c' k p t := Inn.kept kl_mgs h hk hjk hc
theorem Htb.go (h : Htb w c k p t) (hb : Below w.heap.size w w') : Htb w' c k p t := Inn.go kl_sls h hb
theorem Hmb.go (h : Hmb w c k p t) (hb : Below w.heap.size w w') : Hmb w' c k p t := Inn.go kl_mgs h hb
end
/-- The slots of a landed table, by a pointer to it. -/
theorem gens_any (w : World) (c : Nat → Nat) (k p : Nat) (s : Gs) (l : List En) (q : Nat) (h : w.cell? ⟨p, 0, none⟩ = some (.pointer (some ⟨q, 0, none⟩))) :
    Calls Try.prog 36 #[.pointer (some ⟨p, 0, none⟩)] w fun e w' => e = .returned (.pointer (some ⟨q, 0, none⟩)) ∧ w = w' := by
  go_enter Try.func36, Try.ntmps36
  go_wp2
  go_ret
  exact ⟨rfl, rfl⟩
theorem owner_any (o : Int) (w : World) : Calls Try.prog 43 #[.int .i64 o] w fun e w' => e = .returned (.bool (decide (okO o))) ∧ w = w' := by
  by_cases h1 : 1 ≤ o
  · have hv : decide (okO o) = decide (o ≤ 64) := by unfold okO; simp [h1]
    rw [hv]
    go_enter Try.func43, Try.ntmps43
    go_wp2
    go_ret
    exact ⟨rfl, rfl⟩
  · have hv : decide (okO o) = false := decide_eq_false (by unfold okO; omega)
    have hd : decide (1 ≤ o) = false := decide_eq_false h1
    rw [hv]
    go_enter Try.func43, Try.ntmps43
    go_wp2
    go_ret
    exact ⟨rfl, rfl⟩
end Go.Proofs.Ytaoojgnkbcoggaa
