/-
  No cell of these rows narrows 'for every input' (looked for: loops, veiled, ifaces, maps, wideKeys, modest, calm, conditions, laid).
  DERIVED. THE GIVEN ROWS OF THIS SEAT. 5 by the template 'for every input the law returns true; each argument reads behind the call as it read before'; 0 by the template 'total and deterministic' (their statements: YtaoojgnkbcoggaaTotals.lean).
  GIVEN WITH THE SEED: the statements are not yours to turn. If you find one false, say at which input.
  Laid BY PROGRAM, IN A SANDBOX (cutbox-rows.mjs): the forced cells as the released guide's own fill.sh prints them over the translation 1d35c53eaf6a302e… (all of the seat's roots in one cut). By AI agents, Wed Nov 11 2026. No macro, syntax, notation, axiom, sorry.
-/
import Derived.Test.YtaoojgnkbcoggaaChecked
import GoSem.Claim
import GoSem.ClaimJoined
import GoSem.ClaimMapViews
import Derived.JoinedTies
import Derived.KernelRfl
namespace Go.Proofs.Ytaoojgnkbcoggaa
/- THE CELL 'sum', in the pinned program and in every row, IS THE sha256 OF THE DUMP (.gsa) THAT YtaoojgnkbcoggaaProg.lean LOADS. Nothing in Lean hashes anything: it is a label: what it is worth is what the hold of that sum in a sandbox is worth. -/
noncomputable def Try.pinned : Pinned := { name := "ytaoojgnkbcoggaa", sum := "1d35c53eaf6a302edf366a4b212a2df20977b31e8570018a91b40560297b5390", checked := Try.checked }
namespace Rows
def none {H : Type} : Left H := { results := [], args := [] }

/-- 'pluginhostlaw13.HandletabPlays': WHATEVER THE INPUT: true; the input reads as it did. -/
def handletabPlaysSpec : ChangeSpec := { name := "handletabPlays", fn := fun _ => fun
  | [d1, d2, d3] => { results := [.lit (.bool true)], args := [d1, d2, d3] }
  | _ => none }
def handletabPlaysRow : OpenClaim := { program := "ytaoojgnkbcoggaa", sum := "1d35c53eaf6a302edf366a4b212a2df20977b31e8570018a91b40560297b5390", func := "pluginhost/pluginhostlaw13.HandletabPlays", spec := "handletabPlays", unfollowed := true, recurses := true, apart := false }
def HandletabPlaysSaid : Prop := handletabPlaysRow.holds Try.pinned (OpenSpec.ofChange handletabPlaysSpec)

/-- ITS FALSE NEIGHBOUR: 'it returns false'. Refute it at one input. -/
def handletabPlaysWrong : ChangeSpec := { name := "handletabPlays", fn := fun _ => fun
  | [d1, d2, d3] => { results := [.lit (.bool false)], args := [d1, d2, d3] }
  | _ => none }
def HandletabPlaysWrongFalsely : Prop := handletabPlaysRow.holds Try.pinned (OpenSpec.ofChange handletabPlaysWrong)

/-- 'pluginhostlaw13.HandletabAny': WHATEVER THE INPUT: true; the input reads as it did. -/
def handletabAnySpec : ChangeSpec := { name := "handletabAny", fn := fun _ => fun
  | [d1, d2, d3, d4, d5] => { results := [.lit (.bool true)], args := [d1, d2, d3, d4, d5] }
  | _ => none }
def handletabAnyRow : OpenClaim := { program := "ytaoojgnkbcoggaa", sum := "1d35c53eaf6a302edf366a4b212a2df20977b31e8570018a91b40560297b5390", func := "pluginhost/pluginhostlaw13.HandletabAny", spec := "handletabAny", unfollowed := true, recurses := true, apart := false }
def HandletabAnySaid : Prop := handletabAnyRow.holds Try.pinned (OpenSpec.ofChange handletabAnySpec)

/-- ITS FALSE NEIGHBOUR: 'it returns false'. Refute it at one input. -/
def handletabAnyWrong : ChangeSpec := { name := "handletabAny", fn := fun _ => fun
  | [d1, d2, d3, d4, d5] => { results := [.lit (.bool false)], args := [d1, d2, d3, d4, d5] }
  | _ => none }
def HandletabAnyWrongFalsely : Prop := handletabAnyRow.holds Try.pinned (OpenSpec.ofChange handletabAnyWrong)

/-- 'pluginhostlaw13.HandletabLive': WHATEVER THE INPUT: true; the input reads as it did. -/
def handletabLiveSpec : ChangeSpec := { name := "handletabLive", fn := fun _ => fun
  | [d1, d2, d3] => { results := [.lit (.bool true)], args := [d1, d2, d3] }
  | _ => none }
def handletabLiveRow : OpenClaim := { program := "ytaoojgnkbcoggaa", sum := "1d35c53eaf6a302edf366a4b212a2df20977b31e8570018a91b40560297b5390", func := "pluginhost/pluginhostlaw13.HandletabLive", spec := "handletabLive", apart := false }
def HandletabLiveSaid : Prop := handletabLiveRow.holds Try.pinned (OpenSpec.ofChange handletabLiveSpec)

/-- ITS FALSE NEIGHBOUR: 'it returns false'. Refute it at one input. -/
def handletabLiveWrong : ChangeSpec := { name := "handletabLive", fn := fun _ => fun
  | [d1, d2, d3] => { results := [.lit (.bool false)], args := [d1, d2, d3] }
  | _ => none }
def HandletabLiveWrongFalsely : Prop := handletabLiveRow.holds Try.pinned (OpenSpec.ofChange handletabLiveWrong)

/-- 'pluginhostlaw13.HandletabOrder': WHATEVER THE INPUT: true; the input reads as it did. -/
def handletabOrderSpec : ChangeSpec := { name := "handletabOrder", fn := fun _ => fun
  | [d1, d2, d3, d4, d5] => { results := [.lit (.bool true)], args := [d1, d2, d3, d4, d5] }
  | _ => none }
def handletabOrderRow : OpenClaim := { program := "ytaoojgnkbcoggaa", sum := "1d35c53eaf6a302edf366a4b212a2df20977b31e8570018a91b40560297b5390", func := "pluginhost/pluginhostlaw13.HandletabOrder", spec := "handletabOrder", apart := false }
def HandletabOrderSaid : Prop := handletabOrderRow.holds Try.pinned (OpenSpec.ofChange handletabOrderSpec)

/-- ITS FALSE NEIGHBOUR: 'it returns false'. Refute it at one input. -/
def handletabOrderWrong : ChangeSpec := { name := "handletabOrder", fn := fun _ => fun
  | [d1, d2, d3, d4, d5] => { results := [.lit (.bool false)], args := [d1, d2, d3, d4, d5] }
  | _ => none }
def HandletabOrderWrongFalsely : Prop := handletabOrderRow.holds Try.pinned (OpenSpec.ofChange handletabOrderWrong)

/-- 'pluginhostlaw13.HandletabNone': WHATEVER THE INPUT: true; the input reads as it did. -/
def handletabNoneSpec : ChangeSpec := { name := "handletabNone", fn := fun _ => fun
  | [d1, d2, d3, d4] => { results := [.lit (.bool true)], args := [d1, d2, d3, d4] }
  | _ => none }
def handletabNoneRow : OpenClaim := { program := "ytaoojgnkbcoggaa", sum := "1d35c53eaf6a302edf366a4b212a2df20977b31e8570018a91b40560297b5390", func := "pluginhost/pluginhostlaw13.HandletabNone", spec := "handletabNone", unfollowed := true, recurses := true, apart := false }
def HandletabNoneSaid : Prop := handletabNoneRow.holds Try.pinned (OpenSpec.ofChange handletabNoneSpec)

/-- ITS FALSE NEIGHBOUR: 'it returns false'. Refute it at one input. -/
def handletabNoneWrong : ChangeSpec := { name := "handletabNone", fn := fun _ => fun
  | [d1, d2, d3, d4] => { results := [.lit (.bool false)], args := [d1, d2, d3, d4] }
  | _ => none }
def HandletabNoneWrongFalsely : Prop := handletabNoneRow.holds Try.pinned (OpenSpec.ofChange handletabNoneWrong)

/- THE SECOND FORM. 'bulk': how many values and letters a reading holds, each counted each time it is reached (what is shared counts as often as it is met; a slice's spare places count too). A statement '..UptoSaid' is the law's where the arguments, and the package variables that the reading takes, are together of bulk at most 1048576: NARROWER than '..Said'. Prove '..Said' where nothing that the law and all that it calls make is longer than what came in: it says more and counts as full. Else prove '..UptoSaid'. A law counts once. -/
mutual
def uptoBulk {H : Type} : DataW H → Nat
  | .lit (.string bytes) => bytes.length + 1
  | .lit _ => 1
  | .nil => 1
  | .ptr d => uptoBulk d + 1
  | .slice elems spare => uptoBulkAll elems + uptoBulkAll spare + 1
  | .agg parts => uptoBulkAll parts + 1
  | .iface _ d => uptoBulk d + 1
  | .map entries => uptoBulkEntries entries + 1
  | .held _ => 1
def uptoBulkAll {H : Type} : List (DataW H) → Nat
  | [] => 0
  | d :: r => uptoBulk d + uptoBulkAll r
def uptoBulkEntries {H : Type} : List (Lit × DataW H) → Nat
  | [] => 0
  | x :: r => uptoBulkEntry x + uptoBulkEntries r
def uptoBulkEntry {H : Type} : Lit × DataW H → Nat
  | (.string bytes, d) => bytes.length + uptoBulk d + 1
  | (_, d) => uptoBulk d + 1
 end
def uptoSmall : (H : Type) → List (DataW H) → Bool := fun _ ds => decide (uptoBulkAll ds ≤ 1048576)
def OpenSpec.upto (s : _root_.Go.ChangeSpec) : _root_.Go.OpenSpec := { _root_.Go.OpenSpec.ofChange s with cond := some uptoSmall }

/-- 'pluginhostlaw13.HandletabPlays', WHERE WHAT IT READS IS OF BULK AT MOST 1048576: true; the input reads as it did. -/
def handletabPlaysUptoRow : OpenClaim := { program := "ytaoojgnkbcoggaa", sum := "1d35c53eaf6a302edf366a4b212a2df20977b31e8570018a91b40560297b5390", func := "pluginhost/pluginhostlaw13.HandletabPlays", spec := "handletabPlays", unfollowed := true, recurses := true, apart := false, narrowed := true }
def HandletabPlaysUptoSaid : Prop := handletabPlaysUptoRow.holds Try.pinned (OpenSpec.upto handletabPlaysSpec)

/-- 'pluginhostlaw13.HandletabAny', WHERE WHAT IT READS IS OF BULK AT MOST 1048576: true; the input reads as it did. -/
def handletabAnyUptoRow : OpenClaim := { program := "ytaoojgnkbcoggaa", sum := "1d35c53eaf6a302edf366a4b212a2df20977b31e8570018a91b40560297b5390", func := "pluginhost/pluginhostlaw13.HandletabAny", spec := "handletabAny", unfollowed := true, recurses := true, apart := false, narrowed := true }
def HandletabAnyUptoSaid : Prop := handletabAnyUptoRow.holds Try.pinned (OpenSpec.upto handletabAnySpec)

/-- 'pluginhostlaw13.HandletabLive', WHERE WHAT IT READS IS OF BULK AT MOST 1048576: true; the input reads as it did. -/
def handletabLiveUptoRow : OpenClaim := { program := "ytaoojgnkbcoggaa", sum := "1d35c53eaf6a302edf366a4b212a2df20977b31e8570018a91b40560297b5390", func := "pluginhost/pluginhostlaw13.HandletabLive", spec := "handletabLive", apart := false, narrowed := true }
def HandletabLiveUptoSaid : Prop := handletabLiveUptoRow.holds Try.pinned (OpenSpec.upto handletabLiveSpec)

/-- 'pluginhostlaw13.HandletabOrder', WHERE WHAT IT READS IS OF BULK AT MOST 1048576: true; the input reads as it did. -/
def handletabOrderUptoRow : OpenClaim := { program := "ytaoojgnkbcoggaa", sum := "1d35c53eaf6a302edf366a4b212a2df20977b31e8570018a91b40560297b5390", func := "pluginhost/pluginhostlaw13.HandletabOrder", spec := "handletabOrder", apart := false, narrowed := true }
def HandletabOrderUptoSaid : Prop := handletabOrderUptoRow.holds Try.pinned (OpenSpec.upto handletabOrderSpec)

/-- 'pluginhostlaw13.HandletabNone', WHERE WHAT IT READS IS OF BULK AT MOST 1048576: true; the input reads as it did. -/
def handletabNoneUptoRow : OpenClaim := { program := "ytaoojgnkbcoggaa", sum := "1d35c53eaf6a302edf366a4b212a2df20977b31e8570018a91b40560297b5390", func := "pluginhost/pluginhostlaw13.HandletabNone", spec := "handletabNone", unfollowed := true, recurses := true, apart := false, narrowed := true }
def HandletabNoneUptoSaid : Prop := handletabNoneUptoRow.holds Try.pinned (OpenSpec.upto handletabNoneSpec)

end Rows
end Go.Proofs.Ytaoojgnkbcoggaa
