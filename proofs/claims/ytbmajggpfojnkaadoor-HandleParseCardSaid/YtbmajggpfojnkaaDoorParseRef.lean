/-
  Contract of the reference function ParseHandle. Conditions: texts of at most 1000 bytes.
-/
import Derived.Test.YtbmajggpfojnkaaDoorSplit
namespace Go.Proofs.YtbmajggpfojnkaaDoor
open Go.ChangeShapes Go.WideShapes Go.ChangeAt Go.RowKit
set_option maxRecDepth 100000
set_option maxHeartbeats 2000000
theorem or_join2 (a b c : Int) (a0 : 0 ≤ a) (a1 : a ≤ 16777215) (b0 : 0 ≤ b) (b1 : b ≤ 4294967295) (c0 : 0 ≤ c) (c1 : c ≤ 255) :
    bits .or .u64 (bits .or .u64 (c * 72057594037927936) (b * 16777216)) a = word a b c := by
  rw [u64_or (c * 72057594037927936) (b * 16777216) (by omega) (by omega) (by omega) (by omega)]
  have e1 : (c * 72057594037927936).toNat ||| (b * 16777216).toNat = (c * 72057594037927936).toNat + (b * 16777216).toNat := nat_join 56 _ _ (by omega) (by omega)
  rw [e1, u64_or _ a (by omega) (by omega) (by omega) (by omega)]
  have e2 : (((c * 72057594037927936).toNat + (b * 16777216).toNat : Nat) : Int).toNat ||| a.toNat = (c * 72057594037927936).toNat + (b * 16777216).toNat + a.toNat := by
    rw [nat_join 24 _ _ (by omega) (by omega)]; omega
  rw [e2]
  unfold word
  omega
/-- Three pieces, each in its cell. -/
theorem three_cells {w w1 : World} {v : Value} {p0 p1 p2 : List UInt8} (h : Holds3 w w1 v [p0, p1, p2]) :
    ∃ g cap, v = .slice (some ⟨g, 0, none⟩) 3 cap ∧ w1.cell? ⟨g, 0, none⟩ = some (strV p0) ∧ w1.cell? ⟨g, 1, none⟩ = some (strV p1) ∧ w1.cell? ⟨g, 2, none⟩ = some (strV p2) := by
  have ho := h.own
  rcases ho.2 with ⟨_, h0⟩ | ⟨g, cap, cur, rfl, _⟩
  · simp at h0
  · have ho2 : w1.ownsRow w.heap.size 9 1 (.slice (some ⟨g, 0, none⟩) 3 cap) 3 [strV p0, strV p1, strV p2] := ho
    exact ⟨g, cap, rfl, ho2.cellAt 0 (by decide), ho2.cellAt 1 (by decide), ho2.cellAt 2 (by decide)⟩
theorem other_len {w w1 : World} {v : Value} {ps : List (List UInt8)} (h : Holds3 w w1 v ps) : ∃ a cap, v = .slice a ps.length cap := by
  rcases h.own.2 with ⟨rfl, h0⟩ | ⟨g, cap, cur, rfl, _⟩
  · exact ⟨none, 0, by rw [h0]⟩
  · exact ⟨_, _, rfl⟩
/-- What is answered for the parts that were read, if any. -/
def ansW (o : Option (Nat × Nat × Nat)) : Int := match o with | some (a, b, c) => word a b c | none => 0
def ansE (o : Option (Nat × Nat × Nat)) : Int := match o with | some _ => 0 | none => 29
theorem parseR_any (s : ByteArray) (hs : s.size ≤ 1000) (w : World) :
    Calls Tryd.prog 23 #[.string s] w fun e w' => e = .returned (.tuple #[.int .u64 (parseW s.data.toList), .int .i64 (parseE s.data.toList)]) ∧ Below w.heap.size w w' := by
  have HS := Lib.hid (fun w => split_any s hs w)
  have hl : s.data.toList.length ≤ 1000 := by rw [← Lib.size_eq]; exact hs
  have hlen : ∀ p ∈ splitP s.data.toList, p.length ≤ 1000 := fun p hp => Nat.le_trans (splitP_len _ p hp) hl
  have hpp := parse_pieces s.data.toList
  have hW : parseW s.data.toList = ansW (pieces (splitP s.data.toList)) := by rw [← hpp]; rfl
  have hX : parseE s.data.toList = ansE (pieces (splitP s.data.toList)) := by rw [← hpp]; rfl
  clear hpp hl
  generalize parseW s.data.toList = pw at *
  generalize parseE s.data.toList = pe at *
  generalize splitP s.data.toList = ps at *
  by_cases h3 : ps.length = 3
  · obtain ⟨p0, p1, p2, rfl⟩ : ∃ p0 p1 p2, ps = [p0, p1, p2] := by
      match ps, h3 with
      | [p0, p1, p2], _ => exact ⟨p0, p1, p2, rfl⟩
    have z : ∀ p : List UInt8, p.length ≤ 1000 → (⟨p.toArray⟩ : ByteArray).size ≤ 1000 := fun p hp => by show p.toArray.size ≤ 1000; simpa using hp
    have HN1 := Lib.hid (number_any 16777215 (by decide) ⟨p0.toArray⟩ (z _ (hlen p0 (by simp))))
    have HN2 := Lib.hid (number_any 4294967295 (by decide) ⟨p1.toArray⟩ (z _ (hlen p1 (by simp))))
    have HN3 := Lib.hid (number_any 255 (by decide) ⟨p2.toArray⟩ (z _ (hlen p2 (by simp))))
    rw [show ((16777215 : Nat) : Int) = 16777215 from rfl] at HN1
    rw [show ((4294967295 : Nat) : Int) = 4294967295 from rfl] at HN2
    rw [show ((255 : Nat) : Int) = 255 from rfl] at HN3
    have b1 : ∀ u, numP 16777215 p0 = some u → u ≤ 16777215 := fun u h => numP_le h
    have b2 : ∀ u, numP 4294967295 p1 = some u → u ≤ 4294967295 := fun u h => numP_le h
    have b3 : ∀ u, numP 255 p2 = some u → u ≤ 255 := fun u h => numP_le h
    simp only [pieces] at hW hX
    clear z hlen h3
    generalize numP 16777215 p0 = o1 at *
    generalize numP 4294967295 p1 = o2 at *
    generalize numP 255 p2 = o3 at *
    cases o1 with
    | none =>
      obtain rfl : pw = 0 := hW
      obtain rfl : pe = 29 := hX
      clear b1 b2 b3
      rw [show partW none = 0 from rfl, show partB none = false from rfl] at HN1
      generalize partW o2 = q2 at *
      generalize partW o3 = q3 at *
      generalize partB o2 = g2 at *
      generalize partB o3 = g3 at *
      go_enter Tryd.func23, Tryd.ntmps23
      go_wp2_with fail
      refine (HS.out _).mono ?_
      rintro e w1 ⟨v, rfl, hO⟩
      obtain ⟨g, cap, rfl, c0, c1, c2⟩ := three_cells hO
      have HO := Lib.hid hO.bel
      clear hO
      unfold strV at c0 c1 c2
      go_wp2_with fail
      refine (HN1.out _).mono ?_
      rintro e w' ⟨rfl, rfl⟩
      go_wp2_with fail
      refine (HN2.out _).mono ?_
      rintro e w' ⟨rfl, rfl⟩
      go_wp2_with fail
      refine (HN3.out _).mono ?_
      rintro e w' ⟨rfl, rfl⟩
      go_wp2
      go_ret2
      exact ⟨rfl, HO.out⟩
    | some a =>
      have a1 := b1 a rfl
      rw [show partW (some a) = (a : Int) from rfl, show partB (some a) = true from rfl] at HN1
      cases o2 with
      | none =>
        obtain rfl : pw = 0 := hW
        obtain rfl : pe = 29 := hX
        clear b1 b2 b3
        rw [show partW none = 0 from rfl, show partB none = false from rfl] at HN2
        generalize partW o3 = q3 at *
        generalize partB o3 = g3 at *
        go_enter Tryd.func23, Tryd.ntmps23
        go_wp2_with fail
        refine (HS.out _).mono ?_
        rintro e w1 ⟨v, rfl, hO⟩
        obtain ⟨g, cap, rfl, c0, c1, c2⟩ := three_cells hO
        have HO := Lib.hid hO.bel
        clear hO
        unfold strV at c0 c1 c2
        go_wp2_with fail
        refine (HN1.out _).mono ?_
        rintro e w' ⟨rfl, rfl⟩
        go_wp2_with fail
        refine (HN2.out _).mono ?_
        rintro e w' ⟨rfl, rfl⟩
        go_wp2_with fail
        refine (HN3.out _).mono ?_
        rintro e w' ⟨rfl, rfl⟩
        go_wp2
        go_ret2
        exact ⟨rfl, HO.out⟩
      | some b =>
        have a2 := b2 b rfl
        rw [show partW (some b) = (b : Int) from rfl, show partB (some b) = true from rfl] at HN2
        cases o3 with
        | none =>
          obtain rfl : pw = 0 := hW
          obtain rfl : pe = 29 := hX
          clear b1 b2 b3
          rw [show partW none = 0 from rfl, show partB none = false from rfl] at HN3
          go_enter Tryd.func23, Tryd.ntmps23
          go_wp2_with fail
          refine (HS.out _).mono ?_
          rintro e w1 ⟨v, rfl, hO⟩
          obtain ⟨g, cap, rfl, c0, c1, c2⟩ := three_cells hO
          have HO := Lib.hid hO.bel
          clear hO
          unfold strV at c0 c1 c2
          go_wp2_with fail
          refine (HN1.out _).mono ?_
          rintro e w' ⟨rfl, rfl⟩
          go_wp2_with fail
          refine (HN2.out _).mono ?_
          rintro e w' ⟨rfl, rfl⟩
          go_wp2_with fail
          refine (HN3.out _).mono ?_
          rintro e w' ⟨rfl, rfl⟩
          go_wp2
          go_ret2
          exact ⟨rfl, HO.out⟩
        | some c =>
          have a3 := b3 c rfl
          rw [show partW (some c) = (c : Int) from rfl, show partB (some c) = true from rfl] at HN3
          obtain rfl : pw = word a b c := hW
          obtain rfl : pe = 0 := hX
          clear b1 b2 b3
          go_enter Tryd.func23, Tryd.ntmps23
          go_wp2_with fail
          refine (HS.out _).mono ?_
          rintro e w1 ⟨v, rfl, hO⟩
          obtain ⟨g, cap, rfl, c0, c1, c2⟩ := three_cells hO
          have HO := Lib.hid hO.bel
          clear hO
          unfold strV at c0 c1 c2
          go_wp2_with fail
          refine (HN1.out _).mono ?_
          rintro e w' ⟨rfl, rfl⟩
          go_wp2_with fail
          refine (HN2.out _).mono ?_
          rintro e w' ⟨rfl, rfl⟩
          go_wp2_with fail
          refine (HN3.out _).mono ?_
          rintro e w' ⟨rfl, rfl⟩
          go_wp2
          go_ret2
          refine ⟨?_, HO.out⟩
          rw [show word a b c = bits .or .u64 (bits .or .u64 ((c : Int) * 72057594037927936) ((b : Int) * 16777216)) (a : Int) from (or_join2 a b c (by omega) (by omega) (by omega) (by omega) (by omega) (by omega)).symm]
          rfl
  · have hp : pieces ps = none := by
      unfold pieces
      split
      · simp at h3
      · rfl
    rw [hp] at hW hX
    obtain rfl : pw = 0 := hW
    obtain rfl : pe = 29 := hX
    clear hp hlen
    have h3b : ((ps.length : Int) != 3) = true := by rw [bne_iff_ne]; omega
    clear h3
    go_enter Tryd.func23, Tryd.ntmps23
    go_wp2_with fail
    refine (HS.out _).mono ?_
    rintro e w1 ⟨v, rfl, hO⟩
    obtain ⟨a, cap, rfl⟩ := other_len hO
    have HO := Lib.hid hO
    clear hO
    go_wp2
    go_ret2
    exact ⟨rfl, HO.out.bel⟩
end Go.Proofs.YtbmajggpfojnkaaDoor
