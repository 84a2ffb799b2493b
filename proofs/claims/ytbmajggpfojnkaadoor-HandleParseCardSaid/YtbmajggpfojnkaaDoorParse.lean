/-
  Contracts of strconv.ParseUint at 8, 24 and 32 bits, of parsePart and of handle.Parse. Conditions: texts of at most 1000 bytes; the table of powers of ten and the two error variables of strconv lie in memory as the program lays them.
-/
import Derived.Test.YtbmajggpfojnkaaDoorUint
namespace Go.Proofs.YtbmajggpfojnkaaDoor
open Go.ChangeShapes Go.WideShapes Go.ChangeAt Go.RowKit
set_option maxRecDepth 100000
set_option maxHeartbeats 1000000

/-- What strconv.ParseUint answers: a number and no error, or an error. -/
def PubPost (B : Nat) (l : List UInt8) (w : World) (e : Ending) (w' : World) : Prop :=
  ((∃ u : Nat, Lib.parseUintB B l = .ok u ∧ e = .returned (.tuple #[.int .u64 u, .nilIface])) ∨
    ((∀ u, Lib.parseUintB B l ≠ .ok u) ∧ ∃ (v : Int) (N : Nat), e = .returned (.tuple #[.int .u64 v, .iface 71 (.pointer (some ⟨N, 0, none⟩))]))) ∧ Below w.heap.size w w'

theorem below_bytes {w w' : World} {T : TypeId} {s : ByteArray} (h : w' = w ∨ w' = Lib.bytesWorld w T s) : Below w.heap.size w w' := by
  rcases h with rfl | rfl
  · exact Below.refl _ _
  · exact Lib.bytesWorld_below _ _ _

theorem pub8 (s : ByteArray) (hs : s.size ≤ 1000) (w : World) (hE : Env w) : Calls Tryd.prog 34 #[.string s, .int .i64 10, .int .i64 8] w (PubPost 8 s.data.toList w) := by
  obtain ⟨t1, p1, c1⟩ := hE.syn
  obtain ⟨t2, p2, c2⟩ := hE.rng
  cases h : Lib.parseUintB 8 s.data.toList
  · refine (Any.strconv_ParseUint_10_at8_ok Tryd.laysPu14 s (by omega) _ h w).mono ?_
    rintro e w' ⟨rfl, hw⟩
    exact ⟨.inl ⟨_, h, rfl⟩, below_bytes hw⟩
  · refine (Any.strconv_ParseUint_10_at8_syntax Tryd.laysPu14 s (by omega) h _ w c1 (.inr ⟨_, _, rfl⟩)).mono ?_
    rintro e w' ⟨N, rfl, _, _, hb⟩
    exact ⟨.inr ⟨(fun u hu => by rw [h] at hu; cases hu), _, N, rfl⟩, hb⟩
  · refine (Any.strconv_ParseUint_10_at8_range Tryd.laysPu14 s (by omega) h _ w c2 (.inr ⟨_, _, rfl⟩)).mono ?_
    rintro e w' ⟨N, rfl, _, _, hb⟩
    exact ⟨.inr ⟨(fun u hu => by rw [h] at hu; cases hu), _, N, rfl⟩, hb⟩
theorem pub32 (s : ByteArray) (hs : s.size ≤ 1000) (w : World) (hE : Env w) : Calls Tryd.prog 34 #[.string s, .int .i64 10, .int .i64 32] w (PubPost 32 s.data.toList w) := by
  obtain ⟨t1, p1, c1⟩ := hE.syn
  obtain ⟨t2, p2, c2⟩ := hE.rng
  cases h : Lib.parseUintB 32 s.data.toList
  · refine (Any.strconv_ParseUint_10_at32_ok Tryd.laysPu14 s (by omega) _ h w).mono ?_
    rintro e w' ⟨rfl, hw⟩
    exact ⟨.inl ⟨_, h, rfl⟩, below_bytes hw⟩
  · refine (Any.strconv_ParseUint_10_at32_syntax Tryd.laysPu14 s (by omega) h _ w c1 (.inr ⟨_, _, rfl⟩)).mono ?_
    rintro e w' ⟨N, rfl, _, _, hb⟩
    exact ⟨.inr ⟨(fun u hu => by rw [h] at hu; cases hu), _, N, rfl⟩, hb⟩
  · refine (Any.strconv_ParseUint_10_at32_range Tryd.laysPu14 s (by omega) h _ w c2 (.inr ⟨_, _, rfl⟩)).mono ?_
    rintro e w' ⟨N, rfl, _, _, hb⟩
    exact ⟨.inr ⟨(fun u hu => by rw [h] at hu; cases hu), _, N, rfl⟩, hb⟩

theorem at24 (t : ByteArray) (hs : t.size ≤ 1000) (w : World) : Calls Tryd.prog 37 #[.string t, .int .i64 10, .int .i64 24] w (UintPost t.data.toList w) := by
  by_cases h0 : t.size = 0
  · obtain rfl : t = ⟨#[]⟩ := ByteArray.ext (Array.eq_empty_of_size_eq_zero h0)
    refine (Any.internal_strconv_ParseUint_empty Tryd.lays287 10 24 w).mono ?_
    rintro e w' ⟨rfl, rfl⟩
    exact ⟨.inr ⟨(fun u hu => by cases hu), 0, 2, .inr rfl, rfl⟩, Below.refl _ _⟩
  · exact pu24 t (by omega) hs w
theorem pub24 (s : ByteArray) (hs : s.size ≤ 1000) (w : World) (hE : Env w) : Calls Tryd.prog 34 #[.string s, .int .i64 10, .int .i64 24] w (PubPost 24 s.data.toList w) := by
  have HI := Lib.hid (at24 s hs w)
  go_enter Tryd.func34, Tryd.ntmps34
  go_wp2_with fail
  refine HI.out.mono ?_
  rintro e w1 ⟨⟨u, hu, rfl⟩ | ⟨hu, v, n, hn, rfl⟩, hb⟩
  · have HU := Lib.hid hu
    clear hu
    go_wp2
    go_ret2
    exact ⟨.inl ⟨_, HU.out, rfl⟩, hb⟩
  · have HU := Lib.hid hu
    clear hu
    obtain ⟨t1, p1, c1⟩ := (hE.below hb).syn
    obtain ⟨t2, p2, c2⟩ := (hE.below hb).rng
    rcases hn with rfl | rfl
    · go_wp2_with fail
      refine (AnyPu.strconv_toError_range { Tryd.laysPu14 with } _ s 10 24 _ _ (by omega) c2 (.inr ⟨_, _, rfl⟩)).mono ?_
      rintro e w2 ⟨N, rfl, _, _, hb2⟩
      go_wp2
      go_ret2
      exact ⟨.inr ⟨HU.out, _, N, rfl⟩, hb.trans (hb2.mono hb.size)⟩
    · go_wp2_with fail
      refine (AnyPu.strconv_toError_syntax { Tryd.laysPu14 with } _ s 10 24 _ _ (by omega) c1 (.inr ⟨_, _, rfl⟩)).mono ?_
      rintro e w2 ⟨N, rfl, _, _, hb2⟩
      go_wp2
      go_ret2
      exact ⟨.inr ⟨HU.out, _, N, rfl⟩, hb.trans (hb2.mono hb.size)⟩

/-- A part's answer: the number and true, or 0 and false. -/
def partW (o : Option Nat) : Int := match o with | some u => (u : Int) | none => 0
def partB (o : Option Nat) : Bool := o.isSome
theorem lead0_of (s : ByteArray) : lead0 s.data.toList = (decide (1 < s.size) && decide (∃ h : 0 < s.size, s[0].toNat = 48)) := by
  obtain ⟨⟨l⟩⟩ := s
  cases l with
  | nil => rfl
  | cons c r =>
    have e1 : (⟨⟨c :: r⟩⟩ : ByteArray).size = (c :: r).length := rfl
    have e2 : (some c == some (48 : UInt8)) = decide (c.toNat = 48) := by
      by_cases h : c = 48
      · subst h; rfl
      · have h2 : c.toNat ≠ 48 := fun h3 => h (UInt8.toNat_inj.1 (by simpa using h3))
        simp [h, h2]
    simp only [lead0, List.head?_cons, e1, e2]
    congr 1
    exact decide_eq_decide.2 ⟨fun h => ⟨by simp, h⟩, fun ⟨_, h⟩ => h⟩
theorem numP_ok {B : Nat} {l : List UInt8} {u : Nat} (h0 : lead0 l = false) (h : Lib.parseUintB B l = .ok u) : numP (2 ^ B - 1) l = some u := by
  unfold numP; unfold Lib.parseUintB at h
  rw [h0, if_neg (by simp)]
  split at h
  · cases h
  · rename_i hn; rw [if_neg hn, h]
theorem numP_bad {B : Nat} {l : List UInt8} (h : ∀ u, Lib.parseUintB B l ≠ .ok u) : numP (2 ^ B - 1) l = none := by
  unfold numP
  split
  · rfl
  · split
    · rfl
    · rename_i hn
      split
      · rename_i u hu
        exact absurd (by unfold Lib.parseUintB; rw [if_neg hn]; exact hu) (h u)
      · rfl
theorem part_any (B : Nat) (s : ByteArray) (hs : s.size ≤ 1000) (w : World) (hP : Calls Tryd.prog 34 #[.string s, .int .i64 10, .int .i64 B] w (PubPost B s.data.toList w)) :
    Calls Tryd.prog 28 #[.string s, .int .i64 B] w fun e w' => e = .returned (.tuple #[.int .u64 (partW (numP (2 ^ B - 1) s.data.toList)), .bool (partB (numP (2 ^ B - 1) s.data.toList))]) ∧ Below w.heap.size w w' := by
  have HP := Lib.hid hP
  clear hP
  cases hl : lead0 s.data.toList
  · have hrest : ∀ u, Lib.parseUintB B s.data.toList = .ok u → numP (2 ^ B - 1) s.data.toList = some u := fun u hu => numP_ok hl hu
    have HR := Lib.hid hrest
    have HB := Lib.hid (fun h => numP_bad (B := B) (l := s.data.toList) h)
    clear hrest
    rw [lead0_of] at hl
    generalize numP (2 ^ B - 1) s.data.toList = o at *
    by_cases h1 : 1 < s.size
    · have hc : s[0].toNat ≠ 48 := by
        intro h; exact absurd hl (by rw [Bool.not_eq_false, Bool.and_eq_true, decide_eq_true_eq, decide_eq_true_eq]; exact ⟨h1, by omega, h⟩)
      have k1 : ((s[0].toNat : Int) == 48) = false := by rw [beq_eq_false_iff_ne]; omega
      clear hl hc
      go_enter Tryd.func28, Tryd.ntmps28
      go_wp2_with fail
      refine HP.out.mono ?_
      rintro e w1 ⟨⟨u, hu, rfl⟩ | ⟨hu, v, N, rfl⟩, hb⟩
      · obtain rfl := HR.out u hu
        have HU := Lib.hid hu
        clear hu
        go_wp2
        go_ret2
        exact ⟨rfl, hb⟩
      · obtain rfl := HB.out hu
        have HU := Lib.hid hu
        clear hu
        go_wp2
        go_ret2
        exact ⟨rfl, hb⟩
    · clear hl
      go_enter Tryd.func28, Tryd.ntmps28
      go_wp2_with fail
      refine HP.out.mono ?_
      rintro e w1 ⟨⟨u, hu, rfl⟩ | ⟨hu, v, N, rfl⟩, hb⟩
      · obtain rfl := HR.out u hu
        have HU := Lib.hid hu
        clear hu
        go_wp2
        go_ret2
        exact ⟨rfl, hb⟩
      · obtain rfl := HB.out hu
        have HU := Lib.hid hu
        clear hu
        go_wp2
        go_ret2
        exact ⟨rfl, hb⟩
  · have hn : numP (2 ^ B - 1) s.data.toList = none := by unfold numP; rw [hl, if_pos rfl]
    rw [hn]
    rw [lead0_of] at hl
    simp only [Bool.and_eq_true, decide_eq_true_eq] at hl
    obtain ⟨h1, h2, h3⟩ := hl
    have k1 : ((s[0].toNat : Int) == 48) = true := by rw [beq_iff_eq]; omega
    clear h3 hn
    go_enter Tryd.func28, Tryd.ntmps28
    go_wp2
    go_ret2
    exact ⟨rfl, Below.refl _ _⟩

/-- What Parse answers. -/
def parseW (l : List UInt8) : Int := match parseP l with | some (a, b, c) => word a b c | none => 0
def parseE (l : List UInt8) : Int := match parseP l with | some _ => 0 | none => 29
theorem below_chain {a b c : World} (h1 : Below a.heap.size a b) (h2 : Below b.heap.size b c) : Below a.heap.size a c := h1.trans (h2.mono h1.size)
theorem cut_size {s : List UInt8} (n : Nat) (h : s.length ≤ n) : (⟨(cut1 s).toArray⟩ : ByteArray).size ≤ n ∧ (⟨(cut2 s).toArray⟩ : ByteArray).size ≤ n := by
  have h1 := cut1_len s
  have h2 := cut2_len s
  exact ⟨by show (cut1 s).toArray.size ≤ n; simp; omega, by show (cut2 s).toArray.size ≤ n; simp; omega⟩
theorem parse_any (s : ByteArray) (hs : s.size ≤ 1000) (w : World) (hE : Env w) :
    Calls Tryd.prog 21 #[.string s] w fun e w' => e = .returned (.tuple #[.int .u64 (parseW s.data.toList), .int .i64 (parseE s.data.toList)]) ∧ Below w.heap.size w w' := by
  have hl : s.data.toList.length ≤ 1000 := by rw [← Lib.size_eq]; exact hs
  obtain ⟨z1, z2⟩ := cut_size 1000 hl
  have hl2 : (cut2 s.data.toList).length ≤ 1000 := Nat.le_trans (cut2_len _) hl
  obtain ⟨z3, z4⟩ := cut_size 1000 hl2
  have HC1 := Lib.hid (fun w => cut_any s w hs)
  have HC2 := Lib.hid (fun w => cut_any ⟨(cut2 s.data.toList).toArray⟩ w z2)
  have HP1 := Lib.hid (fun w (hE : Env w) => part_any 24 _ z1 w (pub24 _ z1 w hE))
  have HP2 := Lib.hid (fun w (hE : Env w) => part_any 32 _ z3 w (pub32 _ z3 w hE))
  have HP3 := Lib.hid (fun w (hE : Env w) => part_any 8 _ z4 w (pub8 _ z4 w hE))
  simp only [show (2 : Nat) ^ 24 - 1 = 16777215 from rfl, show (2 : Nat) ^ 32 - 1 = 4294967295 from rfl, show (2 : Nat) ^ 8 - 1 = 255 from rfl] at HP1 HP2 HP3
  have b1 : ∀ u, numP 16777215 (cut1 s.data.toList) = some u → u ≤ 16777215 := fun u h => numP_le h
  have b2 : ∀ u, numP 4294967295 (cut1 (cut2 s.data.toList)) = some u → u ≤ 4294967295 := fun u h => numP_le h
  have b3 : ∀ u, numP 255 (cut2 (cut2 s.data.toList)) = some u → u ≤ 255 := fun u h => numP_le h
  have hW : parseW s.data.toList = match numP 16777215 (cut1 s.data.toList), numP 4294967295 (cut1 (cut2 s.data.toList)), numP 255 (cut2 (cut2 s.data.toList)) with | some a, some b, some c => word a b c | _, _, _ => 0 := by
    unfold parseW parseP; split <;> rename_i h <;> split at h <;> simp_all
  have hX : parseE s.data.toList = match numP 16777215 (cut1 s.data.toList), numP 4294967295 (cut1 (cut2 s.data.toList)), numP 255 (cut2 (cut2 s.data.toList)) with | some _, some _, some _ => 0 | _, _, _ => 29 := by
    unfold parseE parseP; split <;> rename_i h <;> split at h <;> simp_all
  generalize parseW s.data.toList = pw at *
  generalize parseE s.data.toList = pe at *
  generalize numP 16777215 (cut1 s.data.toList) = o1 at *
  generalize numP 4294967295 (cut1 (cut2 s.data.toList)) = o2 at *
  generalize numP 255 (cut2 (cut2 s.data.toList)) = o3 at *
  generalize cut1 s.data.toList = l1 at *
  generalize cut1 (cut2 s.data.toList) = l3 at *
  generalize cut2 (cut2 s.data.toList) = l4 at *
  generalize cut2 s.data.toList = l2 at *
  clear z1 z2 z3 z4 hl hl2
  rw [show ((24 : Nat) : Int) = 24 from rfl] at HP1
  rw [show ((32 : Nat) : Int) = 32 from rfl] at HP2
  rw [show ((8 : Nat) : Int) = 8 from rfl] at HP3
  cases o1 with
  | none =>
    obtain rfl : pw = 0 := by rw [hW]
    obtain rfl : pe = 29 := by rw [hX]
    clear hW hX b1 b2 b3
    rw [show partW none = 0 from rfl, show partB none = false from rfl] at HP1
    generalize partW o2 = p2 at *
    generalize partW o3 = p3 at *
    generalize partB o2 = g2 at *
    generalize partB o3 = g3 at *
    go_enter Tryd.func21, Tryd.ntmps21
    go_wp2_with fail
    refine (HC1.out _).mono ?_
    rintro e w1 ⟨ok1, rfl, q1⟩
    go_wp2_with fail
    refine (HC2.out _).mono ?_
    rintro e w2 ⟨ok2, rfl, q2⟩
    have hE2 := (hE.below q1).below q2
    go_wp2_with fail
    refine (HP1.out _ hE2).mono ?_
    rintro e w3 ⟨rfl, q3⟩
    have hE3 := hE2.below q3
    go_wp2_with fail
    refine (HP2.out _ hE3).mono ?_
    rintro e w4 ⟨rfl, q4⟩
    have hE4 := hE3.below q4
    go_wp2_with fail
    refine (HP3.out _ hE4).mono ?_
    rintro e w5 ⟨rfl, q5⟩
    have q := below_chain (below_chain (below_chain (below_chain q1 q2) q3) q4) q5
    clear hE2 hE3 hE4 q1 q2 q3 q4 q5
    go_wp2
    go_ret2
    exact ⟨rfl, q⟩
  | some a =>
    have a1 := b1 a rfl
    rw [show partW (some a) = (a : Int) from rfl, show partB (some a) = true from rfl] at HP1
    cases o2 with
    | none =>
      obtain rfl : pw = 0 := by rw [hW]
      obtain rfl : pe = 29 := by rw [hX]
      clear hW hX b1 b2 b3
      rw [show partW none = 0 from rfl, show partB none = false from rfl] at HP2
      generalize partW o3 = p3 at *
      generalize partB o3 = g3 at *
      go_enter Tryd.func21, Tryd.ntmps21
      go_wp2_with fail
      refine (HC1.out _).mono ?_
      rintro e w1 ⟨ok1, rfl, q1⟩
      go_wp2_with fail
      refine (HC2.out _).mono ?_
      rintro e w2 ⟨ok2, rfl, q2⟩
      have hE2 := (hE.below q1).below q2
      go_wp2_with fail
      refine (HP1.out _ hE2).mono ?_
      rintro e w3 ⟨rfl, q3⟩
      have hE3 := hE2.below q3
      go_wp2_with fail
      refine (HP2.out _ hE3).mono ?_
      rintro e w4 ⟨rfl, q4⟩
      have hE4 := hE3.below q4
      go_wp2_with fail
      refine (HP3.out _ hE4).mono ?_
      rintro e w5 ⟨rfl, q5⟩
      have q := below_chain (below_chain (below_chain (below_chain q1 q2) q3) q4) q5
      clear hE2 hE3 hE4 q1 q2 q3 q4 q5
      go_wp2
      go_ret2
      exact ⟨rfl, q⟩
    | some b =>
      have a2 := b2 b rfl
      rw [show partW (some b) = (b : Int) from rfl, show partB (some b) = true from rfl] at HP2
      cases o3 with
      | none =>
        obtain rfl : pw = 0 := by rw [hW]
        obtain rfl : pe = 29 := by rw [hX]
        clear hW hX b1 b2 b3
        rw [show partW none = 0 from rfl, show partB none = false from rfl] at HP3
        go_enter Tryd.func21, Tryd.ntmps21
        go_wp2_with fail
        refine (HC1.out _).mono ?_
        rintro e w1 ⟨ok1, rfl, q1⟩
        go_wp2_with fail
        refine (HC2.out _).mono ?_
        rintro e w2 ⟨ok2, rfl, q2⟩
        have hE2 := (hE.below q1).below q2
        go_wp2_with fail
        refine (HP1.out _ hE2).mono ?_
        rintro e w3 ⟨rfl, q3⟩
        have hE3 := hE2.below q3
        go_wp2_with fail
        refine (HP2.out _ hE3).mono ?_
        rintro e w4 ⟨rfl, q4⟩
        have hE4 := hE3.below q4
        go_wp2_with fail
        refine (HP3.out _ hE4).mono ?_
        rintro e w5 ⟨rfl, q5⟩
        have q := below_chain (below_chain (below_chain (below_chain q1 q2) q3) q4) q5
        clear hE2 hE3 hE4 q1 q2 q3 q4 q5
        go_wp2
        go_ret2
        exact ⟨rfl, q⟩
      | some c =>
        have a3 := b3 c rfl
        rw [show partW (some c) = (c : Int) from rfl, show partB (some c) = true from rfl] at HP3
        obtain rfl : pw = word a b c := by rw [hW]
        obtain rfl : pe = 0 := by rw [hX]
        clear hW hX b1 b2 b3
        have HJ := Lib.hid (fun w => join_any (a : Int) (b : Int) (c : Int) (by omega) (by omega) (by omega) (by omega) (by omega) (by omega) w)
        generalize word a b c = W at *
        go_enter Tryd.func21, Tryd.ntmps21
        go_wp2_with fail
        refine (HC1.out _).mono ?_
        rintro e w1 ⟨ok1, rfl, q1⟩
        go_wp2_with fail
        refine (HC2.out _).mono ?_
        rintro e w2 ⟨ok2, rfl, q2⟩
        have hE2 := (hE.below q1).below q2
        go_wp2_with fail
        refine (HP1.out _ hE2).mono ?_
        rintro e w3 ⟨rfl, q3⟩
        have hE3 := hE2.below q3
        go_wp2_with fail
        refine (HP2.out _ hE3).mono ?_
        rintro e w4 ⟨rfl, q4⟩
        have hE4 := hE3.below q4
        go_wp2_with fail
        refine (HP3.out _ hE4).mono ?_
        rintro e w5 ⟨rfl, q5⟩
        have q := below_chain (below_chain (below_chain (below_chain q1 q2) q3) q4) q5
        clear hE2 hE3 hE4 q1 q2 q3 q4 q5
        go_wp2_with fail
        refine (HJ.out _).mono ?_
        rintro e w' ⟨rfl, rfl⟩
        go_wp2
        go_ret2
        exact ⟨rfl, q⟩
end Go.Proofs.YtbmajggpfojnkaaDoor
