/-
  No cell of these rows narrows 'for every input' (looked for: loops, veiled, ifaces, maps, wideKeys, modest, calm, conditions, laid).
  DERIVED. THE GIVEN ROWS OF THIS SEAT. 8 by the template 'for every input the law returns true; each argument reads behind the call as it read before'; 0 by the template 'total and deterministic' (their statements: YtlgoiccekgjhnaaTotals.lean).
  GIVEN WITH THE SEED: the statements are not yours to turn. If you find one false, say at which input.
  Laid BY PROGRAM, IN A SANDBOX (cutbox-rows.mjs): the forced cells as the released guide's own fill.sh prints them over the translation c0872f47d2819610… (all of the seat's roots in one cut). By AI agents, Wed Nov 11 2026. No macro, syntax, notation, axiom, sorry.
-/
import Derived.Test.YtlgoiccekgjhnaaChecked
import GoSem.Claim
import GoSem.ClaimJoined
import GoSem.ClaimMapViews
import Derived.JoinedTies
import Derived.KernelRfl
namespace Go.Proofs.Ytlgoiccekgjhnaa
/- THE CELL 'sum', in the pinned program and in every row, IS THE sha256 OF THE DUMP (.gsa) THAT YtlgoiccekgjhnaaProg.lean LOADS. Nothing in Lean hashes anything: it is a label: what it is worth is what the hold of that sum in a sandbox is worth. -/
noncomputable def Try.pinned : Pinned := { name := "ytlgoiccekgjhnaa", sum := "c0872f47d2819610efbcdc010a9fed00945f43090a68250d562418ee816557e2", checked := Try.checked }
namespace Rows
def none {H : Type} : Left H := { results := [], args := [] }

/-- 'pluginhostlaw17.AuditPlays': WHATEVER THE INPUT: true; the input reads as it did. -/
def auditPlaysSpec : ChangeSpec := { name := "auditPlays", fn := fun _ => fun
  | [d1, d2, d3, d4, d5] => { results := [.lit (.bool true)], args := [d1, d2, d3, d4, d5] }
  | _ => none }
def auditPlaysRow : OpenClaim := { program := "ytlgoiccekgjhnaa", sum := "c0872f47d2819610efbcdc010a9fed00945f43090a68250d562418ee816557e2", func := "pluginhost/pluginhostlaw17.AuditPlays", spec := "auditPlays", unfollowed := true, recurses := true, apart := false }
def AuditPlaysSaid : Prop := auditPlaysRow.holds Try.pinned (OpenSpec.ofChange auditPlaysSpec)

/-- ITS FALSE NEIGHBOUR: 'it returns false'. Refute it at one input. -/
def auditPlaysWrong : ChangeSpec := { name := "auditPlays", fn := fun _ => fun
  | [d1, d2, d3, d4, d5] => { results := [.lit (.bool false)], args := [d1, d2, d3, d4, d5] }
  | _ => none }
def AuditPlaysWrongFalsely : Prop := auditPlaysRow.holds Try.pinned (OpenSpec.ofChange auditPlaysWrong)

/-- 'pluginhostlaw17.AuditNone': WHATEVER THE INPUT: true; the input reads as it did. -/
def auditNoneSpec : ChangeSpec := { name := "auditNone", fn := fun _ => fun
  | [d1, d2, d3, d4] => { results := [.lit (.bool true)], args := [d1, d2, d3, d4] }
  | _ => none }
def auditNoneRow : OpenClaim := { program := "ytlgoiccekgjhnaa", sum := "c0872f47d2819610efbcdc010a9fed00945f43090a68250d562418ee816557e2", func := "pluginhost/pluginhostlaw17.AuditNone", spec := "auditNone", unfollowed := true, recurses := true, apart := false }
def AuditNoneSaid : Prop := auditNoneRow.holds Try.pinned (OpenSpec.ofChange auditNoneSpec)

/-- ITS FALSE NEIGHBOUR: 'it returns false'. Refute it at one input. -/
def auditNoneWrong : ChangeSpec := { name := "auditNone", fn := fun _ => fun
  | [d1, d2, d3, d4] => { results := [.lit (.bool false)], args := [d1, d2, d3, d4] }
  | _ => none }
def AuditNoneWrongFalsely : Prop := auditNoneRow.holds Try.pinned (OpenSpec.ofChange auditNoneWrong)

/-- 'pluginhostlaw17.AuditDecode': WHATEVER THE INPUT: true; the input reads as it did. -/
def auditDecodeSpec : ChangeSpec := { name := "auditDecode", fn := fun _ => fun
  | [d1, d2, d3, d4, d5, d6] => { results := [.lit (.bool true)], args := [d1, d2, d3, d4, d5, d6] }
  | _ => none }
def auditDecodeRow : OpenClaim := { program := "ytlgoiccekgjhnaa", sum := "c0872f47d2819610efbcdc010a9fed00945f43090a68250d562418ee816557e2", func := "pluginhost/pluginhostlaw17.AuditDecode", spec := "auditDecode", apart := false }
def AuditDecodeSaid : Prop := auditDecodeRow.holds Try.pinned (OpenSpec.ofChange auditDecodeSpec)

/-- ITS FALSE NEIGHBOUR: 'it returns false'. Refute it at one input. -/
def auditDecodeWrong : ChangeSpec := { name := "auditDecode", fn := fun _ => fun
  | [d1, d2, d3, d4, d5, d6] => { results := [.lit (.bool false)], args := [d1, d2, d3, d4, d5, d6] }
  | _ => none }
def AuditDecodeWrongFalsely : Prop := auditDecodeRow.holds Try.pinned (OpenSpec.ofChange auditDecodeWrong)

/-- 'pluginhostlaw17.AuditBack': WHATEVER THE INPUT: true; the input reads as it did. -/
def auditBackSpec : ChangeSpec := { name := "auditBack", fn := fun _ => fun
  | [d1, d2] => { results := [.lit (.bool true)], args := [d1, d2] }
  | _ => none }
def auditBackRow : OpenClaim := { program := "ytlgoiccekgjhnaa", sum := "c0872f47d2819610efbcdc010a9fed00945f43090a68250d562418ee816557e2", func := "pluginhost/pluginhostlaw17.AuditBack", spec := "auditBack", apart := false }
def AuditBackSaid : Prop := auditBackRow.holds Try.pinned (OpenSpec.ofChange auditBackSpec)

/-- ITS FALSE NEIGHBOUR: 'it returns false'. Refute it at one input. -/
def auditBackWrong : ChangeSpec := { name := "auditBack", fn := fun _ => fun
  | [d1, d2] => { results := [.lit (.bool false)], args := [d1, d2] }
  | _ => none }
def AuditBackWrongFalsely : Prop := auditBackRow.holds Try.pinned (OpenSpec.ofChange auditBackWrong)

/-- 'pluginhostlaw17.AuditGrows': WHATEVER THE INPUT: true; the input reads as it did. -/
def auditGrowsSpec : ChangeSpec := { name := "auditGrows", fn := fun _ => fun
  | [d1, d2] => { results := [.lit (.bool true)], args := [d1, d2] }
  | _ => none }
def auditGrowsRow : OpenClaim := { program := "ytlgoiccekgjhnaa", sum := "c0872f47d2819610efbcdc010a9fed00945f43090a68250d562418ee816557e2", func := "pluginhost/pluginhostlaw17.AuditGrows", spec := "auditGrows", apart := false }
def AuditGrowsSaid : Prop := auditGrowsRow.holds Try.pinned (OpenSpec.ofChange auditGrowsSpec)

/-- ITS FALSE NEIGHBOUR: 'it returns false'. Refute it at one input. -/
def auditGrowsWrong : ChangeSpec := { name := "auditGrows", fn := fun _ => fun
  | [d1, d2] => { results := [.lit (.bool false)], args := [d1, d2] }
  | _ => none }
def AuditGrowsWrongFalsely : Prop := auditGrowsRow.holds Try.pinned (OpenSpec.ofChange auditGrowsWrong)

/-- 'pluginhostlaw17.AuditCapacity': WHATEVER THE INPUT: true; the input reads as it did. -/
def auditCapacitySpec : ChangeSpec := { name := "auditCapacity", fn := fun _ => fun
  | [d1, d2, d3] => { results := [.lit (.bool true)], args := [d1, d2, d3] }
  | _ => none }
def auditCapacityRow : OpenClaim := { program := "ytlgoiccekgjhnaa", sum := "c0872f47d2819610efbcdc010a9fed00945f43090a68250d562418ee816557e2", func := "pluginhost/pluginhostlaw17.AuditCapacity", spec := "auditCapacity", apart := false }
def AuditCapacitySaid : Prop := auditCapacityRow.holds Try.pinned (OpenSpec.ofChange auditCapacitySpec)

/-- ITS FALSE NEIGHBOUR: 'it returns false'. Refute it at one input. -/
def auditCapacityWrong : ChangeSpec := { name := "auditCapacity", fn := fun _ => fun
  | [d1, d2, d3] => { results := [.lit (.bool false)], args := [d1, d2, d3] }
  | _ => none }
def AuditCapacityWrongFalsely : Prop := auditCapacityRow.holds Try.pinned (OpenSpec.ofChange auditCapacityWrong)

/-- 'pluginhostlaw17.AuditCut': WHATEVER THE INPUT: true; the input reads as it did. -/
def auditCutSpec : ChangeSpec := { name := "auditCut", fn := fun _ => fun
  | [d1, d2, d3] => { results := [.lit (.bool true)], args := [d1, d2, d3] }
  | _ => none }
def auditCutRow : OpenClaim := { program := "ytlgoiccekgjhnaa", sum := "c0872f47d2819610efbcdc010a9fed00945f43090a68250d562418ee816557e2", func := "pluginhost/pluginhostlaw17.AuditCut", spec := "auditCut", apart := false }
def AuditCutSaid : Prop := auditCutRow.holds Try.pinned (OpenSpec.ofChange auditCutSpec)

/-- ITS FALSE NEIGHBOUR: 'it returns false'. Refute it at one input. -/
def auditCutWrong : ChangeSpec := { name := "auditCut", fn := fun _ => fun
  | [d1, d2, d3] => { results := [.lit (.bool false)], args := [d1, d2, d3] }
  | _ => none }
def AuditCutWrongFalsely : Prop := auditCutRow.holds Try.pinned (OpenSpec.ofChange auditCutWrong)

/-- 'pluginhostlaw17.AuditGap': WHATEVER THE INPUT: true; the input reads as it did. -/
def auditGapSpec : ChangeSpec := { name := "auditGap", fn := fun _ => fun
  | [d1, d2, d3] => { results := [.lit (.bool true)], args := [d1, d2, d3] }
  | _ => none }
def auditGapRow : OpenClaim := { program := "ytlgoiccekgjhnaa", sum := "c0872f47d2819610efbcdc010a9fed00945f43090a68250d562418ee816557e2", func := "pluginhost/pluginhostlaw17.AuditGap", spec := "auditGap", apart := false }
def AuditGapSaid : Prop := auditGapRow.holds Try.pinned (OpenSpec.ofChange auditGapSpec)

/-- ITS FALSE NEIGHBOUR: 'it returns false'. Refute it at one input. -/
def auditGapWrong : ChangeSpec := { name := "auditGap", fn := fun _ => fun
  | [d1, d2, d3] => { results := [.lit (.bool false)], args := [d1, d2, d3] }
  | _ => none }
def AuditGapWrongFalsely : Prop := auditGapRow.holds Try.pinned (OpenSpec.ofChange auditGapWrong)

/- THE SECOND FORM. 'bulk': how many values and letters a reading holds, each counted each time it is reached (what is shared counts as often as it is met; a slice's spare places count too). A statement '..UptoSaid' is the law's where the arguments, and the package variables that the reading takes, are together of bulk at most 1048576: NARROWER than '..Said'. Prove '..Said' where nothing that the law and all that it calls make is longer than what came in: it says more and counts as full. Else prove '..UptoSaid'. A law counts once. -/
mutual
def uptoBulk {H : Type} : DataW H → Nat
  | .lit (.string bytes) => bytes.length + 1
  | .lit _ => 1
  | .nil => 1
  | .ptr d => uptoBulk d + 1
  | .slice elems spare => uptoBulkAll elems + uptoBulkAll spare + 1
  | .agg parts => uptoBulkAll parts + 1
  | .iface _ d => uptoBulk d + 1
  | .map entries => uptoBulkEntries entries + 1
  | .held _ => 1
def uptoBulkAll {H : Type} : List (DataW H) → Nat
  | [] => 0
  | d :: r => uptoBulk d + uptoBulkAll r
def uptoBulkEntries {H : Type} : List (Lit × DataW H) → Nat
  | [] => 0
  | x :: r => uptoBulkEntry x + uptoBulkEntries r
def uptoBulkEntry {H : Type} : Lit × DataW H → Nat
  | (.string bytes, d) => bytes.length + uptoBulk d + 1
  | (_, d) => uptoBulk d + 1
 end
def uptoSmall : (H : Type) → List (DataW H) → Bool := fun _ ds => decide (uptoBulkAll ds ≤ 1048576)
def OpenSpec.upto (s : _root_.Go.ChangeSpec) : _root_.Go.OpenSpec := { _root_.Go.OpenSpec.ofChange s with cond := some uptoSmall }

/-- 'pluginhostlaw17.AuditPlays', WHERE WHAT IT READS IS OF BULK AT MOST 1048576: true; the input reads as it did. -/
def auditPlaysUptoRow : OpenClaim := { program := "ytlgoiccekgjhnaa", sum := "c0872f47d2819610efbcdc010a9fed00945f43090a68250d562418ee816557e2", func := "pluginhost/pluginhostlaw17.AuditPlays", spec := "auditPlays", unfollowed := true, recurses := true, apart := false, narrowed := true }
def AuditPlaysUptoSaid : Prop := auditPlaysUptoRow.holds Try.pinned (OpenSpec.upto auditPlaysSpec)

/-- 'pluginhostlaw17.AuditNone', WHERE WHAT IT READS IS OF BULK AT MOST 1048576: true; the input reads as it did. -/
def auditNoneUptoRow : OpenClaim := { program := "ytlgoiccekgjhnaa", sum := "c0872f47d2819610efbcdc010a9fed00945f43090a68250d562418ee816557e2", func := "pluginhost/pluginhostlaw17.AuditNone", spec := "auditNone", unfollowed := true, recurses := true, apart := false, narrowed := true }
def AuditNoneUptoSaid : Prop := auditNoneUptoRow.holds Try.pinned (OpenSpec.upto auditNoneSpec)

/-- 'pluginhostlaw17.AuditDecode', WHERE WHAT IT READS IS OF BULK AT MOST 1048576: true; the input reads as it did. -/
def auditDecodeUptoRow : OpenClaim := { program := "ytlgoiccekgjhnaa", sum := "c0872f47d2819610efbcdc010a9fed00945f43090a68250d562418ee816557e2", func := "pluginhost/pluginhostlaw17.AuditDecode", spec := "auditDecode", apart := false, narrowed := true }
def AuditDecodeUptoSaid : Prop := auditDecodeUptoRow.holds Try.pinned (OpenSpec.upto auditDecodeSpec)

/-- 'pluginhostlaw17.AuditBack', WHERE WHAT IT READS IS OF BULK AT MOST 1048576: true; the input reads as it did. -/
def auditBackUptoRow : OpenClaim := { program := "ytlgoiccekgjhnaa", sum := "c0872f47d2819610efbcdc010a9fed00945f43090a68250d562418ee816557e2", func := "pluginhost/pluginhostlaw17.AuditBack", spec := "auditBack", apart := false, narrowed := true }
def AuditBackUptoSaid : Prop := auditBackUptoRow.holds Try.pinned (OpenSpec.upto auditBackSpec)

/-- 'pluginhostlaw17.AuditGrows', WHERE WHAT IT READS IS OF BULK AT MOST 1048576: true; the input reads as it did. -/
def auditGrowsUptoRow : OpenClaim := { program := "ytlgoiccekgjhnaa", sum := "c0872f47d2819610efbcdc010a9fed00945f43090a68250d562418ee816557e2", func := "pluginhost/pluginhostlaw17.AuditGrows", spec := "auditGrows", apart := false, narrowed := true }
def AuditGrowsUptoSaid : Prop := auditGrowsUptoRow.holds Try.pinned (OpenSpec.upto auditGrowsSpec)

/-- 'pluginhostlaw17.AuditCapacity', WHERE WHAT IT READS IS OF BULK AT MOST 1048576: true; the input reads as it did. -/
def auditCapacityUptoRow : OpenClaim := { program := "ytlgoiccekgjhnaa", sum := "c0872f47d2819610efbcdc010a9fed00945f43090a68250d562418ee816557e2", func := "pluginhost/pluginhostlaw17.AuditCapacity", spec := "auditCapacity", apart := false, narrowed := true }
def AuditCapacityUptoSaid : Prop := auditCapacityUptoRow.holds Try.pinned (OpenSpec.upto auditCapacitySpec)

/-- 'pluginhostlaw17.AuditCut', WHERE WHAT IT READS IS OF BULK AT MOST 1048576: true; the input reads as it did. -/
def auditCutUptoRow : OpenClaim := { program := "ytlgoiccekgjhnaa", sum := "c0872f47d2819610efbcdc010a9fed00945f43090a68250d562418ee816557e2", func := "pluginhost/pluginhostlaw17.AuditCut", spec := "auditCut", apart := false, narrowed := true }
def AuditCutUptoSaid : Prop := auditCutUptoRow.holds Try.pinned (OpenSpec.upto auditCutSpec)

/-- 'pluginhostlaw17.AuditGap', WHERE WHAT IT READS IS OF BULK AT MOST 1048576: true; the input reads as it did. -/
def auditGapUptoRow : OpenClaim := { program := "ytlgoiccekgjhnaa", sum := "c0872f47d2819610efbcdc010a9fed00945f43090a68250d562418ee816557e2", func := "pluginhost/pluginhostlaw17.AuditGap", spec := "auditGap", apart := false, narrowed := true }
def AuditGapUptoSaid : Prop := auditGapUptoRow.holds Try.pinned (OpenSpec.upto auditGapSpec)

end Rows
end Go.Proofs.Ytlgoiccekgjhnaa
