/-
  Contract of the reference function Split, and how a text is read by its pieces. Conditions: texts of at most 1000 bytes.
-/
import Derived.Test.YtbmajggpfojnkaaDoorNumber
import Derived.OwnWalk
import Derived.WalkSpells
namespace Go.Proofs.YtbmajggpfojnkaaDoor
open Go.ChangeShapes Go.WideShapes Go.ChangeAt Go.RowKit
set_option maxRecDepth 100000
set_option maxHeartbeats 2000000

/-- The pieces of a text between slashes; 'cur' is the piece that has begun. -/
def splitAux : List UInt8 → List UInt8 → List (List UInt8)
  | [], cur => [cur]
  | c :: l, cur => if c = 47 then cur :: splitAux l [] else splitAux l (cur ++ [c])
def splitP (l : List UInt8) : List (List UInt8) := splitAux l []
def strV (p : List UInt8) : Value := .string ⟨p.toArray⟩

/-- The slice v holds these pieces in new memory, and nothing that was there has changed. -/
structure Holds3 (w wr : World) (v : Value) (ps : List (List UInt8)) : Prop where
  own : wr.ownsRow w.heap.size 9 1 v ps.length (ps.map strV)
  bel : Below w.heap.size w wr
theorem Holds3.start (w : World) : Holds3 w w (.slice none 0 0) [] := ⟨World.ownsRow_nil _ _ _ _, Below.refl _ _⟩
theorem Holds3.step {w wr w1 : World} {v v' : Value} {ps : List (List UInt8)} {p : List UInt8} {o : Obj} (h : Holds3 w wr v ps)
    (hown' : w1.ownsRow w.heap.size 9 1 v' (ps.length + 1) (ps.map strV ++ [strV p])) (hgrow : (wr.alloc o).grownBy w1 v.ownBlock) : Holds3 w w1 v' (ps ++ [p]) := by
  have hz := h.bel.size
  refine ⟨by simpa using hown', (h.bel.alloc hz o).grown hgrow (by simp; omega) (fun j hj => (h.own.lt j hj).1)⟩
theorem info9 : (Tryd.prog.info? 9).map (fun i => (i.zero, i.size, i.bytes)) = some (some (.string ByteArray.empty), 1, 16) := by kernel_rfl

/-- What holds at the head of a round. -/
def SplitAt (s : ByteArray) (k f : Nat) (ps : List (List UInt8)) : Prop :=
  f ≤ k ∧ k ≤ s.size ∧ splitP s.data.toList = ps ++ splitAux (s.data.toList.drop k) ((s.data.toList.drop f).take (k - f))
theorem split_start (s : ByteArray) : SplitAt s 0 0 [] := ⟨Nat.le_refl _, Nat.zero_le _, by simp [splitP]⟩
theorem split_slash {s : ByteArray} {k f : Nat} {ps : List (List UInt8)} (h : SplitAt s k f ps) (hk : k < s.size) (hc : s[k] = 47) : SplitAt s (k + 1) (k + 1) (ps ++ [(s.data.toList.drop f).take (k - f)]) := by
  obtain ⟨h1, h2, h3⟩ := h
  refine ⟨Nat.le_refl _, hk, ?_⟩
  rw [h3, at_list s k hk, splitAux, if_pos hc]
  simp
theorem split_other {s : ByteArray} {k f : Nat} {ps : List (List UInt8)} (h : SplitAt s k f ps) (hk : k < s.size) (hc : s[k] ≠ 47) : SplitAt s (k + 1) f ps := by
  obtain ⟨h1, h2, h3⟩ := h
  refine ⟨by omega, hk, ?_⟩
  have hl : k < s.data.toList.length := by rw [← Lib.size_eq]; exact hk
  have e : (s.data.toList.drop f).take (k + 1 - f) = (s.data.toList.drop f).take (k - f) ++ [s[k]] := by
    have e1 : k + 1 - f = (k - f) + 1 := by omega
    have hl2 : k - f < (s.data.toList.drop f).length := by rw [List.length_drop]; omega
    rw [e1, List.take_succ_eq_append_getElem hl2]
    congr 2
    rw [List.getElem_drop]
    have : f + (k - f) = k := by omega
    simp only [this]
    rfl
  rw [h3, at_list s k hk, splitAux, if_neg hc, e]
theorem split_end {s : ByteArray} {f : Nat} {ps : List (List UInt8)} (h : SplitAt s s.size f ps) : splitP s.data.toList = ps ++ [(s.data.toList.drop f).take (s.size - f)] := by
  obtain ⟨h1, h2, h3⟩ := h
  rw [h3, List.drop_eq_nil_of_le (by rw [← Lib.size_eq]; exact Nat.le_refl _), splitAux]

theorem split_any (s : ByteArray) (hs : s.size ≤ 1000) (w : World) :
    Calls Tryd.prog 30 #[.string s, .int .u8 47] w fun e w' => ∃ v, e = .returned v ∧ Holds3 w w' v (splitP s.data.toList) := by
  obtain ⟨i0, hi, hz0, hz1, hz2⟩ := info_parts info9
  go_enter Tryd.func30, Tryd.ntmps30
  go_wp2
  go_loopw [5, 6, 7] (fun v vf vi wr => ∃ (k f : Nat) (ps : List (List UInt8)), vf = .int .i64 f ∧ vi = .int .i64 k ∧ k ≤ s.size + 1 ∧ ps.length ≤ k ∧ Holds3 w wr v ps ∧ Hid ((k ≤ s.size ∧ SplitAt s k f ps) ∨ (k = s.size + 1 ∧ splitP s.data.toList = ps)))
    (fun _ _ vi _ => s.size + 1 - (intOf vi).toNat)
  case atStart => exact ⟨0, 0, [], rfl, rfl, by omega, by simp, Holds3.start w, Lib.hid (.inl ⟨Nat.zero_le _, split_start s⟩)⟩
  case round =>
    obtain ⟨k, f, ps, rfl, rfl, hk, hpl, hO, hh⟩ := hrel
    by_cases hend : k = s.size + 1
    · have hF : splitP s.data.toList = ps := by
        rcases hh.out with ⟨h1, _⟩ | ⟨_, h2⟩
        · omega
        · exact h2
      subst hend
      have HF := Lib.hid hF
      have HO := Lib.hid hO
      clear hF hO hh
      go_wp2
      go_ret
      exact ⟨_, rfl, by rw [HF.out]; exact HO.out⟩
    · have hks : k ≤ s.size := by omega
      have hS : SplitAt s k f ps := by
        rcases hh.out with ⟨_, h2⟩ | ⟨h1, _⟩
        · exact h2
        · omega
      have hfk := hS.1
      clear hh hend hk
      by_cases hkn : k < s.size
      · by_cases hc : s[k] = 47
        · have HS := Lib.hid (split_slash hS hkn hc)
          have hk1 : ((k : Int) == (s.size : Int)) = false := by rw [beq_eq_false_iff_ne]; omega
          have hk2 : ((s[k].toNat : Int) == 47) = true := by rw [beq_iff_eq, hc]; rfl
          clear hc
          go_wp2_with (first | (at_builtin; refine wpList_append_own _ rfl (.tmp 25) (.tmp 30) 50 rfl w.heap.size 9 i0 (.string ByteArray.empty) 1 16 Tryd.underlying50 hi hz0 hz1 hz2 rfl (by decide) _ _ _ rfl (hO.own.alloc _) ⟨wr.heap.size, 0, none⟩ 1 1 [.string (s.extract f k)] rfl rfl (cell_one_new _ _ _) (by simp [Value.oneCell']) (by unfold maxLen; omega) (by omega) (by have := hO.bel.size; simp; omega) ?_))
          · intro v' w1 hown' hgrow _
            have hN : Holds3 w w1 v' (ps ++ [(s.data.toList.drop f).take (k - f)]) := hO.step (by rw [show strV ((s.data.toList.drop f).take (k - f)) = .string (s.extract f k) from congrArg Value.string (Lib.extract_eq s f k).symm]; exact hown') hgrow
            have HN := Lib.hid hN
            clear hN hown' hgrow hO
            go_wp2
            go_roundw
            case rel => exact ⟨k + 1, k + 1, _, by go_num, by go_num, by omega, by simp; omega, HN.out, Lib.hid (.inl ⟨by omega, HS.out⟩)⟩
            case measure => first | (simp [intOf]; done) | (simp [intOf]; omega)
        · have HS := Lib.hid (split_other hS hkn hc)
          have hk1 : ((k : Int) == (s.size : Int)) = false := by rw [beq_eq_false_iff_ne]; omega
          have hk2 : ((s[k].toNat : Int) == 47) = false := by
            rw [beq_eq_false_iff_ne]
            intro h
            exact hc (UInt8.toNat_inj.1 (by rw [show (47 : UInt8).toNat = 47 from rfl]; omega))
          have HO := Lib.hid hO
          clear hc hO
          go_wp2
          go_roundw
          case rel => exact ⟨k + 1, f, ps, rfl, by go_num, by omega, by omega, HO.out, Lib.hid (.inl ⟨by omega, HS.out⟩)⟩
          case measure => first | (simp [intOf]; done) | (simp [intOf]; omega)
      · obtain rfl : k = s.size := by omega
        have HS := Lib.hid (split_end hS)
        have hk1 : ((s.size : Int) == (s.size : Int)) = true := by simp
        clear hS
        go_wp2_with (first | (at_builtin; refine wpList_append_own _ rfl (.tmp 25) (.tmp 30) 50 rfl w.heap.size 9 i0 (.string ByteArray.empty) 1 16 Tryd.underlying50 hi hz0 hz1 hz2 rfl (by decide) _ _ _ rfl (hO.own.alloc _) ⟨wr.heap.size, 0, none⟩ 1 1 [.string (s.extract f s.size)] rfl rfl (cell_one_new _ _ _) (by simp [Value.oneCell']) (by unfold maxLen; omega) (by omega) (by have := hO.bel.size; simp; omega) ?_))
        · intro v' w1 hown' hgrow _
          have hN : Holds3 w w1 v' (ps ++ [(s.data.toList.drop f).take (s.size - f)]) := hO.step (by rw [show strV ((s.data.toList.drop f).take (s.size - f)) = .string (s.extract f s.size) from congrArg Value.string (Lib.extract_eq s f s.size).symm]; exact hown') hgrow
          have HN := Lib.hid hN
          clear hN hown' hgrow hO
          go_wp2
          go_roundw
          case rel => exact ⟨s.size + 1, s.size + 1, _, by go_num, by go_num, by omega, by simp; omega, HN.out, Lib.hid (.inr ⟨rfl, HS.out⟩)⟩
          case measure => first | (simp [intOf]; done) | (simp [intOf]; omega)

theorem splitAux_no : ∀ (l cur : List UInt8), (47 : UInt8) ∉ l → splitAux l cur = [cur ++ l]
  | [], cur, _ => by simp [splitAux]
  | c :: l, cur, h => by
    have hc : c ≠ 47 := fun e => h (by simp [e])
    rw [splitAux, if_neg hc, splitAux_no l _ (fun h2 => h (List.mem_cons_of_mem _ h2))]
    simp
theorem splitAux_yes : ∀ (l cur : List UInt8), (47 : UInt8) ∈ l → splitAux l cur = (cur ++ cut1 l) :: splitP (cut2 l)
  | [], cur, h => by cases h
  | c :: l, cur, h => by
    by_cases hc : c = 47
    · subst hc
      simp [splitAux, cut1, cut2, splitP]
    · have hl : (47 : UInt8) ∈ l := by
        rcases List.mem_cons.1 h with h | h
        · exact absurd h.symm hc
        · exact h
      rw [splitAux, if_neg hc, splitAux_yes l _ hl]
      simp [cut1, cut2, hc]
theorem cut2_no (l : List UInt8) (h : (47 : UInt8) ∉ l) : cut2 l = [] := by
  induction l with
  | nil => rfl
  | cons c l ih =>
    have hc : c ≠ 47 := fun e => h (by simp [e])
    rw [cut2, if_neg hc, ih (fun h2 => h (List.mem_cons_of_mem _ h2))]
theorem splitP_ne (l : List UInt8) : splitP l ≠ [] := by
  unfold splitP
  by_cases h : (47 : UInt8) ∈ l
  · rw [splitAux_yes l [] h]; simp
  · rw [splitAux_no l [] h]; simp
/-- The text is read by its pieces just as by cutting it twice. -/
def pieces (ps : List (List UInt8)) : Option (Nat × Nat × Nat) :=
  match ps with
  | [a, b, c] => (match numP 16777215 a, numP 4294967295 b, numP 255 c with | some x, some y, some z => some (x, y, z) | _, _, _ => none)
  | _ => none
theorem parse_pieces (l : List UInt8) : parseP l = pieces (splitP l) := by
  by_cases h1 : (47 : UInt8) ∈ l
  · have e1 : splitP l = cut1 l :: splitP (cut2 l) := by
      have := splitAux_yes l [] h1
      simpa [splitP] using this
    by_cases h2 : (47 : UInt8) ∈ cut2 l
    · have e2 : splitP (cut2 l) = cut1 (cut2 l) :: splitP (cut2 (cut2 l)) := by
        have := splitAux_yes (cut2 l) [] h2
        simpa [splitP] using this
      by_cases h3 : (47 : UInt8) ∈ cut2 (cut2 l)
      · have e3 : splitP (cut2 (cut2 l)) = cut1 (cut2 (cut2 l)) :: splitP (cut2 (cut2 (cut2 l))) := by
          have := splitAux_yes (cut2 (cut2 l)) [] h3
          simpa [splitP] using this
        rw [e1, e2, e3]
        unfold parseP
        rw [numP_slash 255 _ h3]
        obtain ⟨x, r, hx⟩ : ∃ x r, splitP (cut2 (cut2 (cut2 l))) = x :: r := List.exists_cons_of_ne_nil (splitP_ne _)
        rw [hx]
        simp only [pieces]
        split <;> simp_all
      · have e3 : splitP (cut2 (cut2 l)) = [cut2 (cut2 l)] := by
          have := splitAux_no (cut2 (cut2 l)) [] h3
          simpa [splitP] using this
        rw [e1, e2, e3]
        rfl
    · have e2 : splitP (cut2 l) = [cut2 l] := by
        have := splitAux_no (cut2 l) [] h2
        simpa [splitP] using this
      rw [e1, e2]
      unfold parseP
      rw [cut2_no _ h2, numP_nil]
      simp only [pieces]
      split <;> simp_all
  · have e1 : splitP l = [l] := by
      have := splitAux_no l [] h1
      simpa [splitP] using this
    rw [e1]
    unfold parseP
    rw [cut2_no _ h1]
    simp only [cut1, cut2, numP_nil, pieces]
    split <;> simp_all
theorem splitAux_len : ∀ (l cur : List UInt8), ∀ p ∈ splitAux l cur, p.length ≤ cur.length + l.length
  | [], cur, p, h => by
    obtain rfl : p = cur := by simpa [splitAux] using h
    simp
  | c :: l, cur, p, h => by
    rw [splitAux] at h
    split at h
    · rcases List.mem_cons.1 h with rfl | h
      · simp
      · have := splitAux_len l [] p h
        simp at this ⊢; omega
    · have := splitAux_len l _ p h
      simp at this ⊢; omega
theorem splitP_len (l : List UInt8) : ∀ p ∈ splitP l, p.length ≤ l.length := fun p h => by
  have := splitAux_len l [] p h
  simpa using this
end Go.Proofs.YtbmajggpfojnkaaDoor
