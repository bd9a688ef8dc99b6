/-
  No cell of these rows narrows 'for every input' (looked for: loops, veiled, ifaces, maps, wideKeys, modest, calm, conditions, laid).
  DERIVED. THE GIVEN ROWS OF THIS SEAT. 16 by the template 'for every input the law returns true; each argument reads behind the call as it read before'; 0 by the template 'total and deterministic' (their statements: YtcejmfgbfdhflaaGreatTotals.lean).
  GIVEN WITH THE SEED: the statements are not yours to turn. If you find one false, say at which input.
  Laid BY PROGRAM, IN A SANDBOX (cutbox-rows.mjs): the forced cells as the released guide's own fill.sh prints them over the translation 1d577a898c3acddd… (all of the seat's roots in one cut). By AI agents, Wed Nov 11 2026. No macro, syntax, notation, axiom, sorry.
-/
import Derived.Test.YtcejmfgbfdhflaaGreatChecked
import GoSem.Claim
import GoSem.ClaimJoined
import GoSem.ClaimMapViews
import Derived.JoinedTies
import Derived.KernelRfl
namespace Go.Proofs.YtcejmfgbfdhflaaGreat
/- THE CELL 'sum', in the pinned program and in every row, IS THE sha256 OF THE DUMP (.gsa) THAT YtcejmfgbfdhflaaGreatProg.lean LOADS. Nothing in Lean hashes anything: it is a label: what it is worth is what the hold of that sum in a sandbox is worth. -/
noncomputable def Tryz.pinned : Pinned := { name := "ytcejmfgbfdhflaagreat", sum := "1d577a898c3acddd094427dfa9552452ab10d7cf3d8e40dc3a9d8df695b1ca18", checked := Tryz.checked }
namespace Rows
def none {H : Type} : Left H := { results := [], args := [] }

/-- 'boundstonelaw04.ChainageChecks': WHATEVER THE INPUT: true; the input reads as it did. -/
def chainageChecksSpec : ChangeSpec := { name := "chainageChecks", fn := fun _ => fun
  | [d1, d2, d3] => { results := [.lit (.bool true)], args := [d1, d2, d3] }
  | _ => none }
def chainageChecksRow : OpenClaim := { program := "ytcejmfgbfdhflaagreat", sum := "1d577a898c3acddd094427dfa9552452ab10d7cf3d8e40dc3a9d8df695b1ca18", func := "boundstone/boundstonelaw04.ChainageChecks", spec := "chainageChecks", unfollowed := true, recurses := true, apart := false }
def ChainageChecksSaid : Prop := chainageChecksRow.holds Tryz.pinned (OpenSpec.ofChange chainageChecksSpec)

/-- ITS FALSE NEIGHBOUR: 'it returns false'. Refute it at one input. -/
def chainageChecksWrong : ChangeSpec := { name := "chainageChecks", fn := fun _ => fun
  | [d1, d2, d3] => { results := [.lit (.bool false)], args := [d1, d2, d3] }
  | _ => none }
def ChainageChecksWrongFalsely : Prop := chainageChecksRow.holds Tryz.pinned (OpenSpec.ofChange chainageChecksWrong)

/-- 'boundstonelaw04.ChainageEdits': WHATEVER THE INPUT: true; the input reads as it did. -/
def chainageEditsSpec : ChangeSpec := { name := "chainageEdits", fn := fun _ => fun
  | [d1, d2, d3] => { results := [.lit (.bool true)], args := [d1, d2, d3] }
  | _ => none }
def chainageEditsRow : OpenClaim := { program := "ytcejmfgbfdhflaagreat", sum := "1d577a898c3acddd094427dfa9552452ab10d7cf3d8e40dc3a9d8df695b1ca18", func := "boundstone/boundstonelaw04.ChainageEdits", spec := "chainageEdits", unfollowed := true, recurses := true, apart := false }
def ChainageEditsSaid : Prop := chainageEditsRow.holds Tryz.pinned (OpenSpec.ofChange chainageEditsSpec)

/-- ITS FALSE NEIGHBOUR: 'it returns false'. Refute it at one input. -/
def chainageEditsWrong : ChangeSpec := { name := "chainageEdits", fn := fun _ => fun
  | [d1, d2, d3] => { results := [.lit (.bool false)], args := [d1, d2, d3] }
  | _ => none }
def ChainageEditsWrongFalsely : Prop := chainageEditsRow.holds Tryz.pinned (OpenSpec.ofChange chainageEditsWrong)

/-- 'boundstonelaw04.ChainageLengths': WHATEVER THE INPUT: true; the input reads as it did. -/
def chainageLengthsSpec : ChangeSpec := { name := "chainageLengths", fn := fun _ => fun
  | [d1, d2, d3] => { results := [.lit (.bool true)], args := [d1, d2, d3] }
  | _ => none }
def chainageLengthsRow : OpenClaim := { program := "ytcejmfgbfdhflaagreat", sum := "1d577a898c3acddd094427dfa9552452ab10d7cf3d8e40dc3a9d8df695b1ca18", func := "boundstone/boundstonelaw04.ChainageLengths", spec := "chainageLengths", unfollowed := true, recurses := true, apart := false }
def ChainageLengthsSaid : Prop := chainageLengthsRow.holds Tryz.pinned (OpenSpec.ofChange chainageLengthsSpec)

/-- ITS FALSE NEIGHBOUR: 'it returns false'. Refute it at one input. -/
def chainageLengthsWrong : ChangeSpec := { name := "chainageLengths", fn := fun _ => fun
  | [d1, d2, d3] => { results := [.lit (.bool false)], args := [d1, d2, d3] }
  | _ => none }
def ChainageLengthsWrongFalsely : Prop := chainageLengthsRow.holds Tryz.pinned (OpenSpec.ofChange chainageLengthsWrong)

/-- 'boundstonelaw04.ChainageClashes': WHATEVER THE INPUT: true; the input reads as it did. -/
def chainageClashesSpec : ChangeSpec := { name := "chainageClashes", fn := fun _ => fun
  | [d] => { results := [.lit (.bool true)], args := [d] }
  | _ => none }
def chainageClashesRow : OpenClaim := { program := "ytcejmfgbfdhflaagreat", sum := "1d577a898c3acddd094427dfa9552452ab10d7cf3d8e40dc3a9d8df695b1ca18", func := "boundstone/boundstonelaw04.ChainageClashes", spec := "chainageClashes", unfollowed := true, recurses := true, apart := false }
def ChainageClashesSaid : Prop := chainageClashesRow.holds Tryz.pinned (OpenSpec.ofChange chainageClashesSpec)

/-- ITS FALSE NEIGHBOUR: 'it returns false'. Refute it at one input. -/
def chainageClashesWrong : ChangeSpec := { name := "chainageClashes", fn := fun _ => fun
  | [d] => { results := [.lit (.bool false)], args := [d] }
  | _ => none }
def ChainageClashesWrongFalsely : Prop := chainageClashesRow.holds Tryz.pinned (OpenSpec.ofChange chainageClashesWrong)

/-- 'boundstonelaw04.ChainageFits': WHATEVER THE INPUT: true; the input reads as it did. -/
def chainageFitsSpec : ChangeSpec := { name := "chainageFits", fn := fun _ => fun
  | [d1, d2] => { results := [.lit (.bool true)], args := [d1, d2] }
  | _ => none }
def chainageFitsRow : OpenClaim := { program := "ytcejmfgbfdhflaagreat", sum := "1d577a898c3acddd094427dfa9552452ab10d7cf3d8e40dc3a9d8df695b1ca18", func := "boundstone/boundstonelaw04.ChainageFits", spec := "chainageFits", unfollowed := true, recurses := true, apart := false }
def ChainageFitsSaid : Prop := chainageFitsRow.holds Tryz.pinned (OpenSpec.ofChange chainageFitsSpec)

/-- ITS FALSE NEIGHBOUR: 'it returns false'. Refute it at one input. -/
def chainageFitsWrong : ChangeSpec := { name := "chainageFits", fn := fun _ => fun
  | [d1, d2] => { results := [.lit (.bool false)], args := [d1, d2] }
  | _ => none }
def ChainageFitsWrongFalsely : Prop := chainageFitsRow.holds Tryz.pinned (OpenSpec.ofChange chainageFitsWrong)

/-- 'boundstonelaw04.ChainageSpans': WHATEVER THE INPUT: true; the input reads as it did. -/
def chainageSpansSpec : ChangeSpec := { name := "chainageSpans", fn := fun _ => fun
  | [d1, d2, d3] => { results := [.lit (.bool true)], args := [d1, d2, d3] }
  | _ => none }
def chainageSpansRow : OpenClaim := { program := "ytcejmfgbfdhflaagreat", sum := "1d577a898c3acddd094427dfa9552452ab10d7cf3d8e40dc3a9d8df695b1ca18", func := "boundstone/boundstonelaw04.ChainageSpans", spec := "chainageSpans", unfollowed := true, recurses := true, apart := false }
def ChainageSpansSaid : Prop := chainageSpansRow.holds Tryz.pinned (OpenSpec.ofChange chainageSpansSpec)

/-- ITS FALSE NEIGHBOUR: 'it returns false'. Refute it at one input. -/
def chainageSpansWrong : ChangeSpec := { name := "chainageSpans", fn := fun _ => fun
  | [d1, d2, d3] => { results := [.lit (.bool false)], args := [d1, d2, d3] }
  | _ => none }
def ChainageSpansWrongFalsely : Prop := chainageSpansRow.holds Tryz.pinned (OpenSpec.ofChange chainageSpansWrong)

/-- 'boundstonelaw04.ChainageMeasures': WHATEVER THE INPUT: true; the input reads as it did. -/
def chainageMeasuresSpec : ChangeSpec := { name := "chainageMeasures", fn := fun _ => fun
  | [d1, d2, d3] => { results := [.lit (.bool true)], args := [d1, d2, d3] }
  | _ => none }
def chainageMeasuresRow : OpenClaim := { program := "ytcejmfgbfdhflaagreat", sum := "1d577a898c3acddd094427dfa9552452ab10d7cf3d8e40dc3a9d8df695b1ca18", func := "boundstone/boundstonelaw04.ChainageMeasures", spec := "chainageMeasures", unfollowed := true, recurses := true, apart := false }
def ChainageMeasuresSaid : Prop := chainageMeasuresRow.holds Tryz.pinned (OpenSpec.ofChange chainageMeasuresSpec)

/-- ITS FALSE NEIGHBOUR: 'it returns false'. Refute it at one input. -/
def chainageMeasuresWrong : ChangeSpec := { name := "chainageMeasures", fn := fun _ => fun
  | [d1, d2, d3] => { results := [.lit (.bool false)], args := [d1, d2, d3] }
  | _ => none }
def ChainageMeasuresWrongFalsely : Prop := chainageMeasuresRow.holds Tryz.pinned (OpenSpec.ofChange chainageMeasuresWrong)

/-- 'boundstonelaw04.ChainageNeeds': WHATEVER THE INPUT: true; the input reads as it did. -/
def chainageNeedsSpec : ChangeSpec := { name := "chainageNeeds", fn := fun _ => fun
  | [d1, d2] => { results := [.lit (.bool true)], args := [d1, d2] }
  | _ => none }
def chainageNeedsRow : OpenClaim := { program := "ytcejmfgbfdhflaagreat", sum := "1d577a898c3acddd094427dfa9552452ab10d7cf3d8e40dc3a9d8df695b1ca18", func := "boundstone/boundstonelaw04.ChainageNeeds", spec := "chainageNeeds", unfollowed := true, recurses := true, apart := false }
def ChainageNeedsSaid : Prop := chainageNeedsRow.holds Tryz.pinned (OpenSpec.ofChange chainageNeedsSpec)

/-- ITS FALSE NEIGHBOUR: 'it returns false'. Refute it at one input. -/
def chainageNeedsWrong : ChangeSpec := { name := "chainageNeeds", fn := fun _ => fun
  | [d1, d2] => { results := [.lit (.bool false)], args := [d1, d2] }
  | _ => none }
def ChainageNeedsWrongFalsely : Prop := chainageNeedsRow.holds Tryz.pinned (OpenSpec.ofChange chainageNeedsWrong)

/-- 'boundstonelaw04.ChainageProves': WHATEVER THE INPUT: true; the input reads as it did. -/
def chainageProvesSpec : ChangeSpec := { name := "chainageProves", fn := fun _ => fun
  | [d1, d2, d3, d4] => { results := [.lit (.bool true)], args := [d1, d2, d3, d4] }
  | _ => none }
def chainageProvesRow : OpenClaim := { program := "ytcejmfgbfdhflaagreat", sum := "1d577a898c3acddd094427dfa9552452ab10d7cf3d8e40dc3a9d8df695b1ca18", func := "boundstone/boundstonelaw04.ChainageProves", spec := "chainageProves", unfollowed := true, recurses := true, apart := false }
def ChainageProvesSaid : Prop := chainageProvesRow.holds Tryz.pinned (OpenSpec.ofChange chainageProvesSpec)

/-- ITS FALSE NEIGHBOUR: 'it returns false'. Refute it at one input. -/
def chainageProvesWrong : ChangeSpec := { name := "chainageProves", fn := fun _ => fun
  | [d1, d2, d3, d4] => { results := [.lit (.bool false)], args := [d1, d2, d3, d4] }
  | _ => none }
def ChainageProvesWrongFalsely : Prop := chainageProvesRow.holds Tryz.pinned (OpenSpec.ofChange chainageProvesWrong)

/-- 'boundstonelaw04.ChainageIsTrue': WHATEVER THE INPUT: true; the input reads as it did. -/
def chainageIsTrueSpec : ChangeSpec := { name := "chainageIsTrue", fn := fun _ => fun
  | [d1, d2, d3, d4, d5, d6] => { results := [.lit (.bool true)], args := [d1, d2, d3, d4, d5, d6] }
  | _ => none }
def chainageIsTrueRow : OpenClaim := { program := "ytcejmfgbfdhflaagreat", sum := "1d577a898c3acddd094427dfa9552452ab10d7cf3d8e40dc3a9d8df695b1ca18", func := "boundstone/boundstonelaw04.ChainageIsTrue", spec := "chainageIsTrue", unfollowed := true, recurses := true, apart := false }
def ChainageIsTrueSaid : Prop := chainageIsTrueRow.holds Tryz.pinned (OpenSpec.ofChange chainageIsTrueSpec)

/-- ITS FALSE NEIGHBOUR: 'it returns false'. Refute it at one input. -/
def chainageIsTrueWrong : ChangeSpec := { name := "chainageIsTrue", fn := fun _ => fun
  | [d1, d2, d3, d4, d5, d6] => { results := [.lit (.bool false)], args := [d1, d2, d3, d4, d5, d6] }
  | _ => none }
def ChainageIsTrueWrongFalsely : Prop := chainageIsTrueRow.holds Tryz.pinned (OpenSpec.ofChange chainageIsTrueWrong)

/-- 'boundstonelaw04.ChainageIsSharp': WHATEVER THE INPUT: true; the input reads as it did. -/
def chainageIsSharpSpec : ChangeSpec := { name := "chainageIsSharp", fn := fun _ => fun
  | [d1, d2, d3] => { results := [.lit (.bool true)], args := [d1, d2, d3] }
  | _ => none }
def chainageIsSharpRow : OpenClaim := { program := "ytcejmfgbfdhflaagreat", sum := "1d577a898c3acddd094427dfa9552452ab10d7cf3d8e40dc3a9d8df695b1ca18", func := "boundstone/boundstonelaw04.ChainageIsSharp", spec := "chainageIsSharp", unfollowed := true, recurses := true, apart := false }
def ChainageIsSharpSaid : Prop := chainageIsSharpRow.holds Tryz.pinned (OpenSpec.ofChange chainageIsSharpSpec)

/-- ITS FALSE NEIGHBOUR: 'it returns false'. Refute it at one input. -/
def chainageIsSharpWrong : ChangeSpec := { name := "chainageIsSharp", fn := fun _ => fun
  | [d1, d2, d3] => { results := [.lit (.bool false)], args := [d1, d2, d3] }
  | _ => none }
def ChainageIsSharpWrongFalsely : Prop := chainageIsSharpRow.holds Tryz.pinned (OpenSpec.ofChange chainageIsSharpWrong)

/-- 'boundstonelaw04.ChainageNarrows': WHATEVER THE INPUT: true; the input reads as it did. -/
def chainageNarrowsSpec : ChangeSpec := { name := "chainageNarrows", fn := fun _ => fun
  | [d1, d2, d3, d4] => { results := [.lit (.bool true)], args := [d1, d2, d3, d4] }
  | _ => none }
def chainageNarrowsRow : OpenClaim := { program := "ytcejmfgbfdhflaagreat", sum := "1d577a898c3acddd094427dfa9552452ab10d7cf3d8e40dc3a9d8df695b1ca18", func := "boundstone/boundstonelaw04.ChainageNarrows", spec := "chainageNarrows", unfollowed := true, recurses := true, apart := false }
def ChainageNarrowsSaid : Prop := chainageNarrowsRow.holds Tryz.pinned (OpenSpec.ofChange chainageNarrowsSpec)

/-- ITS FALSE NEIGHBOUR: 'it returns false'. Refute it at one input. -/
def chainageNarrowsWrong : ChangeSpec := { name := "chainageNarrows", fn := fun _ => fun
  | [d1, d2, d3, d4] => { results := [.lit (.bool false)], args := [d1, d2, d3, d4] }
  | _ => none }
def ChainageNarrowsWrongFalsely : Prop := chainageNarrowsRow.holds Tryz.pinned (OpenSpec.ofChange chainageNarrowsWrong)

/-- 'boundstonelaw04.ChainagePairs': WHATEVER THE INPUT: true; the input reads as it did. -/
def chainagePairsSpec : ChangeSpec := { name := "chainagePairs", fn := fun _ => fun
  | [d] => { results := [.lit (.bool true)], args := [d] }
  | _ => none }
def chainagePairsRow : OpenClaim := { program := "ytcejmfgbfdhflaagreat", sum := "1d577a898c3acddd094427dfa9552452ab10d7cf3d8e40dc3a9d8df695b1ca18", func := "boundstone/boundstonelaw04.ChainagePairs", spec := "chainagePairs", unfollowed := true, recurses := true, apart := false }
def ChainagePairsSaid : Prop := chainagePairsRow.holds Tryz.pinned (OpenSpec.ofChange chainagePairsSpec)

/-- ITS FALSE NEIGHBOUR: 'it returns false'. Refute it at one input. -/
def chainagePairsWrong : ChangeSpec := { name := "chainagePairs", fn := fun _ => fun
  | [d] => { results := [.lit (.bool false)], args := [d] }
  | _ => none }
def ChainagePairsWrongFalsely : Prop := chainagePairsRow.holds Tryz.pinned (OpenSpec.ofChange chainagePairsWrong)

/-- 'boundstonelaw04.ChainageCounts': WHATEVER THE INPUT: true; the input reads as it did. -/
def chainageCountsSpec : ChangeSpec := { name := "chainageCounts", fn := fun _ => fun
  | [d] => { results := [.lit (.bool true)], args := [d] }
  | _ => none }
def chainageCountsRow : OpenClaim := { program := "ytcejmfgbfdhflaagreat", sum := "1d577a898c3acddd094427dfa9552452ab10d7cf3d8e40dc3a9d8df695b1ca18", func := "boundstone/boundstonelaw04.ChainageCounts", spec := "chainageCounts", unfollowed := true, recurses := true, apart := false }
def ChainageCountsSaid : Prop := chainageCountsRow.holds Tryz.pinned (OpenSpec.ofChange chainageCountsSpec)

/-- ITS FALSE NEIGHBOUR: 'it returns false'. Refute it at one input. -/
def chainageCountsWrong : ChangeSpec := { name := "chainageCounts", fn := fun _ => fun
  | [d] => { results := [.lit (.bool false)], args := [d] }
  | _ => none }
def ChainageCountsWrongFalsely : Prop := chainageCountsRow.holds Tryz.pinned (OpenSpec.ofChange chainageCountsWrong)

/-- 'boundstonelaw04.ChainageOrder': WHATEVER THE INPUT: true; the input reads as it did. -/
def chainageOrderSpec : ChangeSpec := { name := "chainageOrder", fn := fun _ => fun
  | [d1, d2, d3] => { results := [.lit (.bool true)], args := [d1, d2, d3] }
  | _ => none }
def chainageOrderRow : OpenClaim := { program := "ytcejmfgbfdhflaagreat", sum := "1d577a898c3acddd094427dfa9552452ab10d7cf3d8e40dc3a9d8df695b1ca18", func := "boundstone/boundstonelaw04.ChainageOrder", spec := "chainageOrder", unfollowed := true, recurses := true, apart := false }
def ChainageOrderSaid : Prop := chainageOrderRow.holds Tryz.pinned (OpenSpec.ofChange chainageOrderSpec)

/-- ITS FALSE NEIGHBOUR: 'it returns false'. Refute it at one input. -/
def chainageOrderWrong : ChangeSpec := { name := "chainageOrder", fn := fun _ => fun
  | [d1, d2, d3] => { results := [.lit (.bool false)], args := [d1, d2, d3] }
  | _ => none }
def ChainageOrderWrongFalsely : Prop := chainageOrderRow.holds Tryz.pinned (OpenSpec.ofChange chainageOrderWrong)

/-- 'boundstonelaw04.ChainageAdds': WHATEVER THE INPUT: true; the input reads as it did. -/
def chainageAddsSpec : ChangeSpec := { name := "chainageAdds", fn := fun _ => fun
  | [d1, d2, d3, d4] => { results := [.lit (.bool true)], args := [d1, d2, d3, d4] }
  | _ => none }
def chainageAddsRow : OpenClaim := { program := "ytcejmfgbfdhflaagreat", sum := "1d577a898c3acddd094427dfa9552452ab10d7cf3d8e40dc3a9d8df695b1ca18", func := "boundstone/boundstonelaw04.ChainageAdds", spec := "chainageAdds", unfollowed := true, recurses := true, apart := false }
def ChainageAddsSaid : Prop := chainageAddsRow.holds Tryz.pinned (OpenSpec.ofChange chainageAddsSpec)

/-- ITS FALSE NEIGHBOUR: 'it returns false'. Refute it at one input. -/
def chainageAddsWrong : ChangeSpec := { name := "chainageAdds", fn := fun _ => fun
  | [d1, d2, d3, d4] => { results := [.lit (.bool false)], args := [d1, d2, d3, d4] }
  | _ => none }
def ChainageAddsWrongFalsely : Prop := chainageAddsRow.holds Tryz.pinned (OpenSpec.ofChange chainageAddsWrong)

/- THE SECOND FORM. 'bulk': how many values and letters a reading holds, each counted each time it is reached (what is shared counts as often as it is met; a slice's spare places count too). A statement '..UptoSaid' is the law's where the arguments, and the package variables that the reading takes, are together of bulk at most 1048576: NARROWER than '..Said'. Prove '..Said' where nothing that the law and all that it calls make is longer than what came in: it says more and counts as full. Else prove '..UptoSaid'. A law counts once. -/
mutual
def uptoBulk {H : Type} : DataW H → Nat
  | .lit (.string bytes) => bytes.length + 1
  | .lit _ => 1
  | .nil => 1
  | .ptr d => uptoBulk d + 1
  | .slice elems spare => uptoBulkAll elems + uptoBulkAll spare + 1
  | .agg parts => uptoBulkAll parts + 1
  | .iface _ d => uptoBulk d + 1
  | .map entries => uptoBulkEntries entries + 1
  | .held _ => 1
def uptoBulkAll {H : Type} : List (DataW H) → Nat
  | [] => 0
  | d :: r => uptoBulk d + uptoBulkAll r
def uptoBulkEntries {H : Type} : List (Lit × DataW H) → Nat
  | [] => 0
  | x :: r => uptoBulkEntry x + uptoBulkEntries r
def uptoBulkEntry {H : Type} : Lit × DataW H → Nat
  | (.string bytes, d) => bytes.length + uptoBulk d + 1
  | (_, d) => uptoBulk d + 1
 end
def uptoSmall : (H : Type) → List (DataW H) → Bool := fun _ ds => decide (uptoBulkAll ds ≤ 1048576)
def OpenSpec.upto (s : _root_.Go.ChangeSpec) : _root_.Go.OpenSpec := { _root_.Go.OpenSpec.ofChange s with cond := some uptoSmall }

/-- 'boundstonelaw04.ChainageChecks', WHERE WHAT IT READS IS OF BULK AT MOST 1048576: true; the input reads as it did. -/
def chainageChecksUptoRow : OpenClaim := { program := "ytcejmfgbfdhflaagreat", sum := "1d577a898c3acddd094427dfa9552452ab10d7cf3d8e40dc3a9d8df695b1ca18", func := "boundstone/boundstonelaw04.ChainageChecks", spec := "chainageChecks", unfollowed := true, recurses := true, apart := false, narrowed := true }
def ChainageChecksUptoSaid : Prop := chainageChecksUptoRow.holds Tryz.pinned (OpenSpec.upto chainageChecksSpec)

/-- 'boundstonelaw04.ChainageEdits', WHERE WHAT IT READS IS OF BULK AT MOST 1048576: true; the input reads as it did. -/
def chainageEditsUptoRow : OpenClaim := { program := "ytcejmfgbfdhflaagreat", sum := "1d577a898c3acddd094427dfa9552452ab10d7cf3d8e40dc3a9d8df695b1ca18", func := "boundstone/boundstonelaw04.ChainageEdits", spec := "chainageEdits", unfollowed := true, recurses := true, apart := false, narrowed := true }
def ChainageEditsUptoSaid : Prop := chainageEditsUptoRow.holds Tryz.pinned (OpenSpec.upto chainageEditsSpec)

/-- 'boundstonelaw04.ChainageLengths', WHERE WHAT IT READS IS OF BULK AT MOST 1048576: true; the input reads as it did. -/
def chainageLengthsUptoRow : OpenClaim := { program := "ytcejmfgbfdhflaagreat", sum := "1d577a898c3acddd094427dfa9552452ab10d7cf3d8e40dc3a9d8df695b1ca18", func := "boundstone/boundstonelaw04.ChainageLengths", spec := "chainageLengths", unfollowed := true, recurses := true, apart := false, narrowed := true }
def ChainageLengthsUptoSaid : Prop := chainageLengthsUptoRow.holds Tryz.pinned (OpenSpec.upto chainageLengthsSpec)

/-- 'boundstonelaw04.ChainageClashes', WHERE WHAT IT READS IS OF BULK AT MOST 1048576: true; the input reads as it did. -/
def chainageClashesUptoRow : OpenClaim := { program := "ytcejmfgbfdhflaagreat", sum := "1d577a898c3acddd094427dfa9552452ab10d7cf3d8e40dc3a9d8df695b1ca18", func := "boundstone/boundstonelaw04.ChainageClashes", spec := "chainageClashes", unfollowed := true, recurses := true, apart := false, narrowed := true }
def ChainageClashesUptoSaid : Prop := chainageClashesUptoRow.holds Tryz.pinned (OpenSpec.upto chainageClashesSpec)

/-- 'boundstonelaw04.ChainageFits', WHERE WHAT IT READS IS OF BULK AT MOST 1048576: true; the input reads as it did. -/
def chainageFitsUptoRow : OpenClaim := { program := "ytcejmfgbfdhflaagreat", sum := "1d577a898c3acddd094427dfa9552452ab10d7cf3d8e40dc3a9d8df695b1ca18", func := "boundstone/boundstonelaw04.ChainageFits", spec := "chainageFits", unfollowed := true, recurses := true, apart := false, narrowed := true }
def ChainageFitsUptoSaid : Prop := chainageFitsUptoRow.holds Tryz.pinned (OpenSpec.upto chainageFitsSpec)

/-- 'boundstonelaw04.ChainageSpans', WHERE WHAT IT READS IS OF BULK AT MOST 1048576: true; the input reads as it did. -/
def chainageSpansUptoRow : OpenClaim := { program := "ytcejmfgbfdhflaagreat", sum := "1d577a898c3acddd094427dfa9552452ab10d7cf3d8e40dc3a9d8df695b1ca18", func := "boundstone/boundstonelaw04.ChainageSpans", spec := "chainageSpans", unfollowed := true, recurses := true, apart := false, narrowed := true }
def ChainageSpansUptoSaid : Prop := chainageSpansUptoRow.holds Tryz.pinned (OpenSpec.upto chainageSpansSpec)

/-- 'boundstonelaw04.ChainageMeasures', WHERE WHAT IT READS IS OF BULK AT MOST 1048576: true; the input reads as it did. -/
def chainageMeasuresUptoRow : OpenClaim := { program := "ytcejmfgbfdhflaagreat", sum := "1d577a898c3acddd094427dfa9552452ab10d7cf3d8e40dc3a9d8df695b1ca18", func := "boundstone/boundstonelaw04.ChainageMeasures", spec := "chainageMeasures", unfollowed := true, recurses := true, apart := false, narrowed := true }
def ChainageMeasuresUptoSaid : Prop := chainageMeasuresUptoRow.holds Tryz.pinned (OpenSpec.upto chainageMeasuresSpec)

/-- 'boundstonelaw04.ChainageNeeds', WHERE WHAT IT READS IS OF BULK AT MOST 1048576: true; the input reads as it did. -/
def chainageNeedsUptoRow : OpenClaim := { program := "ytcejmfgbfdhflaagreat", sum := "1d577a898c3acddd094427dfa9552452ab10d7cf3d8e40dc3a9d8df695b1ca18", func := "boundstone/boundstonelaw04.ChainageNeeds", spec := "chainageNeeds", unfollowed := true, recurses := true, apart := false, narrowed := true }
def ChainageNeedsUptoSaid : Prop := chainageNeedsUptoRow.holds Tryz.pinned (OpenSpec.upto chainageNeedsSpec)

/-- 'boundstonelaw04.ChainageProves', WHERE WHAT IT READS IS OF BULK AT MOST 1048576: true; the input reads as it did. -/
def chainageProvesUptoRow : OpenClaim := { program := "ytcejmfgbfdhflaagreat", sum := "1d577a898c3acddd094427dfa9552452ab10d7cf3d8e40dc3a9d8df695b1ca18", func := "boundstone/boundstonelaw04.ChainageProves", spec := "chainageProves", unfollowed := true, recurses := true, apart := false, narrowed := true }
def ChainageProvesUptoSaid : Prop := chainageProvesUptoRow.holds Tryz.pinned (OpenSpec.upto chainageProvesSpec)

/-- 'boundstonelaw04.ChainageIsTrue', WHERE WHAT IT READS IS OF BULK AT MOST 1048576: true; the input reads as it did. -/
def chainageIsTrueUptoRow : OpenClaim := { program := "ytcejmfgbfdhflaagreat", sum := "1d577a898c3acddd094427dfa9552452ab10d7cf3d8e40dc3a9d8df695b1ca18", func := "boundstone/boundstonelaw04.ChainageIsTrue", spec := "chainageIsTrue", unfollowed := true, recurses := true, apart := false, narrowed := true }
def ChainageIsTrueUptoSaid : Prop := chainageIsTrueUptoRow.holds Tryz.pinned (OpenSpec.upto chainageIsTrueSpec)

/-- 'boundstonelaw04.ChainageIsSharp', WHERE WHAT IT READS IS OF BULK AT MOST 1048576: true; the input reads as it did. -/
def chainageIsSharpUptoRow : OpenClaim := { program := "ytcejmfgbfdhflaagreat", sum := "1d577a898c3acddd094427dfa9552452ab10d7cf3d8e40dc3a9d8df695b1ca18", func := "boundstone/boundstonelaw04.ChainageIsSharp", spec := "chainageIsSharp", unfollowed := true, recurses := true, apart := false, narrowed := true }
def ChainageIsSharpUptoSaid : Prop := chainageIsSharpUptoRow.holds Tryz.pinned (OpenSpec.upto chainageIsSharpSpec)

/-- 'boundstonelaw04.ChainageNarrows', WHERE WHAT IT READS IS OF BULK AT MOST 1048576: true; the input reads as it did. -/
def chainageNarrowsUptoRow : OpenClaim := { program := "ytcejmfgbfdhflaagreat", sum := "1d577a898c3acddd094427dfa9552452ab10d7cf3d8e40dc3a9d8df695b1ca18", func := "boundstone/boundstonelaw04.ChainageNarrows", spec := "chainageNarrows", unfollowed := true, recurses := true, apart := false, narrowed := true }
def ChainageNarrowsUptoSaid : Prop := chainageNarrowsUptoRow.holds Tryz.pinned (OpenSpec.upto chainageNarrowsSpec)

/-- 'boundstonelaw04.ChainagePairs', WHERE WHAT IT READS IS OF BULK AT MOST 1048576: true; the input reads as it did. -/
def chainagePairsUptoRow : OpenClaim := { program := "ytcejmfgbfdhflaagreat", sum := "1d577a898c3acddd094427dfa9552452ab10d7cf3d8e40dc3a9d8df695b1ca18", func := "boundstone/boundstonelaw04.ChainagePairs", spec := "chainagePairs", unfollowed := true, recurses := true, apart := false, narrowed := true }
def ChainagePairsUptoSaid : Prop := chainagePairsUptoRow.holds Tryz.pinned (OpenSpec.upto chainagePairsSpec)

/-- 'boundstonelaw04.ChainageCounts', WHERE WHAT IT READS IS OF BULK AT MOST 1048576: true; the input reads as it did. -/
def chainageCountsUptoRow : OpenClaim := { program := "ytcejmfgbfdhflaagreat", sum := "1d577a898c3acddd094427dfa9552452ab10d7cf3d8e40dc3a9d8df695b1ca18", func := "boundstone/boundstonelaw04.ChainageCounts", spec := "chainageCounts", unfollowed := true, recurses := true, apart := false, narrowed := true }
def ChainageCountsUptoSaid : Prop := chainageCountsUptoRow.holds Tryz.pinned (OpenSpec.upto chainageCountsSpec)

/-- 'boundstonelaw04.ChainageOrder', WHERE WHAT IT READS IS OF BULK AT MOST 1048576: true; the input reads as it did. -/
def chainageOrderUptoRow : OpenClaim := { program := "ytcejmfgbfdhflaagreat", sum := "1d577a898c3acddd094427dfa9552452ab10d7cf3d8e40dc3a9d8df695b1ca18", func := "boundstone/boundstonelaw04.ChainageOrder", spec := "chainageOrder", unfollowed := true, recurses := true, apart := false, narrowed := true }
def ChainageOrderUptoSaid : Prop := chainageOrderUptoRow.holds Tryz.pinned (OpenSpec.upto chainageOrderSpec)

/-- 'boundstonelaw04.ChainageAdds', WHERE WHAT IT READS IS OF BULK AT MOST 1048576: true; the input reads as it did. -/
def chainageAddsUptoRow : OpenClaim := { program := "ytcejmfgbfdhflaagreat", sum := "1d577a898c3acddd094427dfa9552452ab10d7cf3d8e40dc3a9d8df695b1ca18", func := "boundstone/boundstonelaw04.ChainageAdds", spec := "chainageAdds", unfollowed := true, recurses := true, apart := false, narrowed := true }
def ChainageAddsUptoSaid : Prop := chainageAddsUptoRow.holds Tryz.pinned (OpenSpec.upto chainageAddsSpec)

end Rows
end Go.Proofs.YtcejmfgbfdhflaaGreat
