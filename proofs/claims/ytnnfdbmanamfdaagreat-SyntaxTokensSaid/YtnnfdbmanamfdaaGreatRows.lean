/-
  NARROWER THAN 'FOR EVERY INPUT', by the rows' own cells (each row's printed sentence says how): ScopeTrees: loops.
  DERIVED. THE GIVEN ROWS OF THIS SEAT. 11 by the template 'for every input the law returns true; each argument reads behind the call as it read before'; 0 by the template 'total and deterministic' (their statements: YtnnfdbmanamfdaaGreatTotals.lean).
  GIVEN WITH THE SEED: the statements are not yours to turn. If you find one false, say at which input.
  Laid BY PROGRAM, IN A SANDBOX (cutbox-rows.mjs): the forced cells as the released guide's own fill.sh prints them over the translation 28a680971968204d… (all of the seat's roots in one cut). By AI agents, Wed Nov 11 2026. No macro, syntax, notation, axiom, sorry.
-/
import Derived.Test.YtnnfdbmanamfdaaGreatChecked
import GoSem.Claim
import GoSem.ClaimJoined
import GoSem.ClaimMapViews
import Derived.JoinedTies
import Derived.KernelRfl
namespace Go.Proofs.YtnnfdbmanamfdaaGreat
/- THE CELL 'sum', in the pinned program and in every row, IS THE sha256 OF THE DUMP (.gsa) THAT YtnnfdbmanamfdaaGreatProg.lean LOADS. Nothing in Lean hashes anything: it is a label: what it is worth is what the hold of that sum in a sandbox is worth. -/
noncomputable def Tryz.pinned : Pinned := { name := "ytnnfdbmanamfdaagreat", sum := "28a680971968204d704f547a092d0f9ed05954835bb166bc51eca5ff41ffef26", checked := Tryz.checked }
namespace Rows
def none {H : Type} : Left H := { results := [], args := [] }

/-- 'semvcslaw05.ScopeTrees': WHATEVER THE INPUT: true; the input reads as it did. -/
def scopeTreesSpec : ChangeSpec := { name := "scopeTrees", fn := fun _ => fun
  | [d1, d2, d3] => { results := [.lit (.bool true)], args := [d1, d2, d3] }
  | _ => none }
def scopeTreesRow : OpenClaim := { program := "ytnnfdbmanamfdaagreat", sum := "28a680971968204d704f547a092d0f9ed05954835bb166bc51eca5ff41ffef26", func := "semvcs/semvcslaw05.ScopeTrees", spec := "scopeTrees", inPlace := ["slices.overlaps[string]"], unfollowed := true, recurses := true, loops := true, apart := false }
def ScopeTreesSaid : Prop := scopeTreesRow.holds Tryz.pinned (OpenSpec.ofChange scopeTreesSpec)

/-- ITS FALSE NEIGHBOUR: 'it returns false'. Refute it at one input. -/
def scopeTreesWrong : ChangeSpec := { name := "scopeTrees", fn := fun _ => fun
  | [d1, d2, d3] => { results := [.lit (.bool false)], args := [d1, d2, d3] }
  | _ => none }
def ScopeTreesWrongFalsely : Prop := scopeTreesRow.holds Tryz.pinned (OpenSpec.ofChange scopeTreesWrong)

/-- 'semvcslaw05.ScopeVariables': WHATEVER THE INPUT: true; the input reads as it did. -/
def scopeVariablesSpec : ChangeSpec := { name := "scopeVariables", fn := fun _ => fun
  | [d] => { results := [.lit (.bool true)], args := [d] }
  | _ => none }
def scopeVariablesRow : OpenClaim := { program := "ytnnfdbmanamfdaagreat", sum := "28a680971968204d704f547a092d0f9ed05954835bb166bc51eca5ff41ffef26", func := "semvcs/semvcslaw05.ScopeVariables", spec := "scopeVariables", inPlace := ["slices.overlaps[string]"], unfollowed := true, recurses := true, apart := false }
def ScopeVariablesSaid : Prop := scopeVariablesRow.holds Tryz.pinned (OpenSpec.ofChange scopeVariablesSpec)

/-- ITS FALSE NEIGHBOUR: 'it returns false'. Refute it at one input. -/
def scopeVariablesWrong : ChangeSpec := { name := "scopeVariables", fn := fun _ => fun
  | [d] => { results := [.lit (.bool false)], args := [d] }
  | _ => none }
def ScopeVariablesWrongFalsely : Prop := scopeVariablesRow.holds Tryz.pinned (OpenSpec.ofChange scopeVariablesWrong)

/-- 'semvcslaw05.ScopePlaces': WHATEVER THE INPUT: true; the input reads as it did. -/
def scopePlacesSpec : ChangeSpec := { name := "scopePlaces", fn := fun _ => fun
  | [d] => { results := [.lit (.bool true)], args := [d] }
  | _ => none }
def scopePlacesRow : OpenClaim := { program := "ytnnfdbmanamfdaagreat", sum := "28a680971968204d704f547a092d0f9ed05954835bb166bc51eca5ff41ffef26", func := "semvcs/semvcslaw05.ScopePlaces", spec := "scopePlaces", inPlace := ["slices.overlaps[string]"], unfollowed := true, recurses := true, apart := false }
def ScopePlacesSaid : Prop := scopePlacesRow.holds Tryz.pinned (OpenSpec.ofChange scopePlacesSpec)

/-- ITS FALSE NEIGHBOUR: 'it returns false'. Refute it at one input. -/
def scopePlacesWrong : ChangeSpec := { name := "scopePlaces", fn := fun _ => fun
  | [d] => { results := [.lit (.bool false)], args := [d] }
  | _ => none }
def ScopePlacesWrongFalsely : Prop := scopePlacesRow.holds Tryz.pinned (OpenSpec.ofChange scopePlacesWrong)

/-- 'semvcslaw05.ScopeAgrees': WHATEVER THE INPUT: true; the input reads as it did. -/
def scopeAgreesSpec : ChangeSpec := { name := "scopeAgrees", fn := fun _ => fun
  | [d] => { results := [.lit (.bool true)], args := [d] }
  | _ => none }
def scopeAgreesRow : OpenClaim := { program := "ytnnfdbmanamfdaagreat", sum := "28a680971968204d704f547a092d0f9ed05954835bb166bc51eca5ff41ffef26", func := "semvcs/semvcslaw05.ScopeAgrees", spec := "scopeAgrees", inPlace := ["slices.overlaps[string]"], unfollowed := true, recurses := true, apart := false }
def ScopeAgreesSaid : Prop := scopeAgreesRow.holds Tryz.pinned (OpenSpec.ofChange scopeAgreesSpec)

/-- ITS FALSE NEIGHBOUR: 'it returns false'. Refute it at one input. -/
def scopeAgreesWrong : ChangeSpec := { name := "scopeAgrees", fn := fun _ => fun
  | [d] => { results := [.lit (.bool false)], args := [d] }
  | _ => none }
def ScopeAgreesWrongFalsely : Prop := scopeAgreesRow.holds Tryz.pinned (OpenSpec.ofChange scopeAgreesWrong)

/-- 'semvcslaw05.ScopeRenames': WHATEVER THE INPUT: true; the input reads as it did. -/
def scopeRenamesSpec : ChangeSpec := { name := "scopeRenames", fn := fun _ => fun
  | [d1, d2] => { results := [.lit (.bool true)], args := [d1, d2] }
  | _ => none }
def scopeRenamesRow : OpenClaim := { program := "ytnnfdbmanamfdaagreat", sum := "28a680971968204d704f547a092d0f9ed05954835bb166bc51eca5ff41ffef26", func := "semvcs/semvcslaw05.ScopeRenames", spec := "scopeRenames", inPlace := ["slices.overlaps[string]"], unfollowed := true, recurses := true, apart := false }
def ScopeRenamesSaid : Prop := scopeRenamesRow.holds Tryz.pinned (OpenSpec.ofChange scopeRenamesSpec)

/-- ITS FALSE NEIGHBOUR: 'it returns false'. Refute it at one input. -/
def scopeRenamesWrong : ChangeSpec := { name := "scopeRenames", fn := fun _ => fun
  | [d1, d2] => { results := [.lit (.bool false)], args := [d1, d2] }
  | _ => none }
def ScopeRenamesWrongFalsely : Prop := scopeRenamesRow.holds Tryz.pinned (OpenSpec.ofChange scopeRenamesWrong)

/-- 'semvcslaw06.LinkTargets': WHATEVER THE INPUT: true; the input reads as it did. -/
def linkTargetsSpec : ChangeSpec := { name := "linkTargets", fn := fun _ => fun
  | [d] => { results := [.lit (.bool true)], args := [d] }
  | _ => none }
def linkTargetsRow : OpenClaim := { program := "ytnnfdbmanamfdaagreat", sum := "28a680971968204d704f547a092d0f9ed05954835bb166bc51eca5ff41ffef26", func := "semvcs/semvcslaw06.LinkTargets", spec := "linkTargets", unfollowed := true, recurses := true, apart := false }
def LinkTargetsSaid : Prop := linkTargetsRow.holds Tryz.pinned (OpenSpec.ofChange linkTargetsSpec)

/-- ITS FALSE NEIGHBOUR: 'it returns false'. Refute it at one input. -/
def linkTargetsWrong : ChangeSpec := { name := "linkTargets", fn := fun _ => fun
  | [d] => { results := [.lit (.bool false)], args := [d] }
  | _ => none }
def LinkTargetsWrongFalsely : Prop := linkTargetsRow.holds Tryz.pinned (OpenSpec.ofChange linkTargetsWrong)

/-- 'semvcslaw06.LinkWords': WHATEVER THE INPUT: true; the input reads as it did. -/
def linkWordsSpec : ChangeSpec := { name := "linkWords", fn := fun _ => fun
  | [d] => { results := [.lit (.bool true)], args := [d] }
  | _ => none }
def linkWordsRow : OpenClaim := { program := "ytnnfdbmanamfdaagreat", sum := "28a680971968204d704f547a092d0f9ed05954835bb166bc51eca5ff41ffef26", func := "semvcs/semvcslaw06.LinkWords", spec := "linkWords", unfollowed := true, recurses := true, apart := false }
def LinkWordsSaid : Prop := linkWordsRow.holds Tryz.pinned (OpenSpec.ofChange linkWordsSpec)

/-- ITS FALSE NEIGHBOUR: 'it returns false'. Refute it at one input. -/
def linkWordsWrong : ChangeSpec := { name := "linkWords", fn := fun _ => fun
  | [d] => { results := [.lit (.bool false)], args := [d] }
  | _ => none }
def LinkWordsWrongFalsely : Prop := linkWordsRow.holds Tryz.pinned (OpenSpec.ofChange linkWordsWrong)

/-- 'semvcslaw06.LinkOnce': WHATEVER THE INPUT: true; the input reads as it did. -/
def linkOnceSpec : ChangeSpec := { name := "linkOnce", fn := fun _ => fun
  | [d] => { results := [.lit (.bool true)], args := [d] }
  | _ => none }
def linkOnceRow : OpenClaim := { program := "ytnnfdbmanamfdaagreat", sum := "28a680971968204d704f547a092d0f9ed05954835bb166bc51eca5ff41ffef26", func := "semvcs/semvcslaw06.LinkOnce", spec := "linkOnce", unfollowed := true, recurses := true, apart := false }
def LinkOnceSaid : Prop := linkOnceRow.holds Tryz.pinned (OpenSpec.ofChange linkOnceSpec)

/-- ITS FALSE NEIGHBOUR: 'it returns false'. Refute it at one input. -/
def linkOnceWrong : ChangeSpec := { name := "linkOnce", fn := fun _ => fun
  | [d] => { results := [.lit (.bool false)], args := [d] }
  | _ => none }
def LinkOnceWrongFalsely : Prop := linkOnceRow.holds Tryz.pinned (OpenSpec.ofChange linkOnceWrong)

/-- 'semvcslaw06.LinkFirst': WHATEVER THE INPUT: true; the input reads as it did. -/
def linkFirstSpec : ChangeSpec := { name := "linkFirst", fn := fun _ => fun
  | [d] => { results := [.lit (.bool true)], args := [d] }
  | _ => none }
def linkFirstRow : OpenClaim := { program := "ytnnfdbmanamfdaagreat", sum := "28a680971968204d704f547a092d0f9ed05954835bb166bc51eca5ff41ffef26", func := "semvcs/semvcslaw06.LinkFirst", spec := "linkFirst", unfollowed := true, recurses := true, apart := false }
def LinkFirstSaid : Prop := linkFirstRow.holds Tryz.pinned (OpenSpec.ofChange linkFirstSpec)

/-- ITS FALSE NEIGHBOUR: 'it returns false'. Refute it at one input. -/
def linkFirstWrong : ChangeSpec := { name := "linkFirst", fn := fun _ => fun
  | [d] => { results := [.lit (.bool false)], args := [d] }
  | _ => none }
def LinkFirstWrongFalsely : Prop := linkFirstRow.holds Tryz.pinned (OpenSpec.ofChange linkFirstWrong)

/-- 'semvcslaw02.SyntaxPrograms': WHATEVER THE INPUT: true; the input reads as it did. -/
def syntaxProgramsSpec : ChangeSpec := { name := "syntaxPrograms", fn := fun _ => fun
  | [d] => { results := [.lit (.bool true)], args := [d] }
  | _ => none }
def syntaxProgramsRow : OpenClaim := { program := "ytnnfdbmanamfdaagreat", sum := "28a680971968204d704f547a092d0f9ed05954835bb166bc51eca5ff41ffef26", func := "semvcs/semvcslaw02.SyntaxPrograms", spec := "syntaxPrograms", inPlace := ["internal/abi.NoEscape"], unfollowed := true, recurses := true, apart := false }
def SyntaxProgramsSaid : Prop := syntaxProgramsRow.holds Tryz.pinned (OpenSpec.ofChange syntaxProgramsSpec)

/-- ITS FALSE NEIGHBOUR: 'it returns false'. Refute it at one input. -/
def syntaxProgramsWrong : ChangeSpec := { name := "syntaxPrograms", fn := fun _ => fun
  | [d] => { results := [.lit (.bool false)], args := [d] }
  | _ => none }
def SyntaxProgramsWrongFalsely : Prop := syntaxProgramsRow.holds Tryz.pinned (OpenSpec.ofChange syntaxProgramsWrong)

/-- 'semvcslaw02.SyntaxTokens': WHATEVER THE INPUT: true; the input reads as it did. -/
def syntaxTokensSpec : ChangeSpec := { name := "syntaxTokens", fn := fun _ => fun
  | [d] => { results := [.lit (.bool true)], args := [d] }
  | _ => none }
def syntaxTokensRow : OpenClaim := { program := "ytnnfdbmanamfdaagreat", sum := "28a680971968204d704f547a092d0f9ed05954835bb166bc51eca5ff41ffef26", func := "semvcs/semvcslaw02.SyntaxTokens", spec := "syntaxTokens", inPlace := ["internal/abi.NoEscape"], unfollowed := true, recurses := true, apart := false }
def SyntaxTokensSaid : Prop := syntaxTokensRow.holds Tryz.pinned (OpenSpec.ofChange syntaxTokensSpec)

/-- ITS FALSE NEIGHBOUR: 'it returns false'. Refute it at one input. -/
def syntaxTokensWrong : ChangeSpec := { name := "syntaxTokens", fn := fun _ => fun
  | [d] => { results := [.lit (.bool false)], args := [d] }
  | _ => none }
def SyntaxTokensWrongFalsely : Prop := syntaxTokensRow.holds Tryz.pinned (OpenSpec.ofChange syntaxTokensWrong)

/- THE SECOND FORM. 'bulk': how many values and letters a reading holds, each counted each time it is reached (what is shared counts as often as it is met; a slice's spare places count too). A statement '..UptoSaid' is the law's where the arguments, and the package variables that the reading takes, are together of bulk at most 1048576: NARROWER than '..Said'. Prove '..Said' where nothing that the law and all that it calls make is longer than what came in: it says more and counts as full. Else prove '..UptoSaid'. A law counts once. -/
mutual
def uptoBulk {H : Type} : DataW H → Nat
  | .lit (.string bytes) => bytes.length + 1
  | .lit _ => 1
  | .nil => 1
  | .ptr d => uptoBulk d + 1
  | .slice elems spare => uptoBulkAll elems + uptoBulkAll spare + 1
  | .agg parts => uptoBulkAll parts + 1
  | .iface _ d => uptoBulk d + 1
  | .map entries => uptoBulkEntries entries + 1
  | .held _ => 1
def uptoBulkAll {H : Type} : List (DataW H) → Nat
  | [] => 0
  | d :: r => uptoBulk d + uptoBulkAll r
def uptoBulkEntries {H : Type} : List (Lit × DataW H) → Nat
  | [] => 0
  | x :: r => uptoBulkEntry x + uptoBulkEntries r
def uptoBulkEntry {H : Type} : Lit × DataW H → Nat
  | (.string bytes, d) => bytes.length + uptoBulk d + 1
  | (_, d) => uptoBulk d + 1
 end
def uptoSmall : (H : Type) → List (DataW H) → Bool := fun _ ds => decide (uptoBulkAll ds ≤ 1048576)
def OpenSpec.upto (s : _root_.Go.ChangeSpec) : _root_.Go.OpenSpec := { _root_.Go.OpenSpec.ofChange s with cond := some uptoSmall }

/-- 'semvcslaw05.ScopeTrees', WHERE WHAT IT READS IS OF BULK AT MOST 1048576: true; the input reads as it did. -/
def scopeTreesUptoRow : OpenClaim := { program := "ytnnfdbmanamfdaagreat", sum := "28a680971968204d704f547a092d0f9ed05954835bb166bc51eca5ff41ffef26", func := "semvcs/semvcslaw05.ScopeTrees", spec := "scopeTrees", inPlace := ["slices.overlaps[string]"], unfollowed := true, recurses := true, loops := true, apart := false, narrowed := true }
def ScopeTreesUptoSaid : Prop := scopeTreesUptoRow.holds Tryz.pinned (OpenSpec.upto scopeTreesSpec)

/-- 'semvcslaw05.ScopeVariables', WHERE WHAT IT READS IS OF BULK AT MOST 1048576: true; the input reads as it did. -/
def scopeVariablesUptoRow : OpenClaim := { program := "ytnnfdbmanamfdaagreat", sum := "28a680971968204d704f547a092d0f9ed05954835bb166bc51eca5ff41ffef26", func := "semvcs/semvcslaw05.ScopeVariables", spec := "scopeVariables", inPlace := ["slices.overlaps[string]"], unfollowed := true, recurses := true, apart := false, narrowed := true }
def ScopeVariablesUptoSaid : Prop := scopeVariablesUptoRow.holds Tryz.pinned (OpenSpec.upto scopeVariablesSpec)

/-- 'semvcslaw05.ScopePlaces', WHERE WHAT IT READS IS OF BULK AT MOST 1048576: true; the input reads as it did. -/
def scopePlacesUptoRow : OpenClaim := { program := "ytnnfdbmanamfdaagreat", sum := "28a680971968204d704f547a092d0f9ed05954835bb166bc51eca5ff41ffef26", func := "semvcs/semvcslaw05.ScopePlaces", spec := "scopePlaces", inPlace := ["slices.overlaps[string]"], unfollowed := true, recurses := true, apart := false, narrowed := true }
def ScopePlacesUptoSaid : Prop := scopePlacesUptoRow.holds Tryz.pinned (OpenSpec.upto scopePlacesSpec)

/-- 'semvcslaw05.ScopeAgrees', WHERE WHAT IT READS IS OF BULK AT MOST 1048576: true; the input reads as it did. -/
def scopeAgreesUptoRow : OpenClaim := { program := "ytnnfdbmanamfdaagreat", sum := "28a680971968204d704f547a092d0f9ed05954835bb166bc51eca5ff41ffef26", func := "semvcs/semvcslaw05.ScopeAgrees", spec := "scopeAgrees", inPlace := ["slices.overlaps[string]"], unfollowed := true, recurses := true, apart := false, narrowed := true }
def ScopeAgreesUptoSaid : Prop := scopeAgreesUptoRow.holds Tryz.pinned (OpenSpec.upto scopeAgreesSpec)

/-- 'semvcslaw05.ScopeRenames', WHERE WHAT IT READS IS OF BULK AT MOST 1048576: true; the input reads as it did. -/
def scopeRenamesUptoRow : OpenClaim := { program := "ytnnfdbmanamfdaagreat", sum := "28a680971968204d704f547a092d0f9ed05954835bb166bc51eca5ff41ffef26", func := "semvcs/semvcslaw05.ScopeRenames", spec := "scopeRenames", inPlace := ["slices.overlaps[string]"], unfollowed := true, recurses := true, apart := false, narrowed := true }
def ScopeRenamesUptoSaid : Prop := scopeRenamesUptoRow.holds Tryz.pinned (OpenSpec.upto scopeRenamesSpec)

/-- 'semvcslaw06.LinkTargets', WHERE WHAT IT READS IS OF BULK AT MOST 1048576: true; the input reads as it did. -/
def linkTargetsUptoRow : OpenClaim := { program := "ytnnfdbmanamfdaagreat", sum := "28a680971968204d704f547a092d0f9ed05954835bb166bc51eca5ff41ffef26", func := "semvcs/semvcslaw06.LinkTargets", spec := "linkTargets", unfollowed := true, recurses := true, apart := false, narrowed := true }
def LinkTargetsUptoSaid : Prop := linkTargetsUptoRow.holds Tryz.pinned (OpenSpec.upto linkTargetsSpec)

/-- 'semvcslaw06.LinkWords', WHERE WHAT IT READS IS OF BULK AT MOST 1048576: true; the input reads as it did. -/
def linkWordsUptoRow : OpenClaim := { program := "ytnnfdbmanamfdaagreat", sum := "28a680971968204d704f547a092d0f9ed05954835bb166bc51eca5ff41ffef26", func := "semvcs/semvcslaw06.LinkWords", spec := "linkWords", unfollowed := true, recurses := true, apart := false, narrowed := true }
def LinkWordsUptoSaid : Prop := linkWordsUptoRow.holds Tryz.pinned (OpenSpec.upto linkWordsSpec)

/-- 'semvcslaw06.LinkOnce', WHERE WHAT IT READS IS OF BULK AT MOST 1048576: true; the input reads as it did. -/
def linkOnceUptoRow : OpenClaim := { program := "ytnnfdbmanamfdaagreat", sum := "28a680971968204d704f547a092d0f9ed05954835bb166bc51eca5ff41ffef26", func := "semvcs/semvcslaw06.LinkOnce", spec := "linkOnce", unfollowed := true, recurses := true, apart := false, narrowed := true }
def LinkOnceUptoSaid : Prop := linkOnceUptoRow.holds Tryz.pinned (OpenSpec.upto linkOnceSpec)

/-- 'semvcslaw06.LinkFirst', WHERE WHAT IT READS IS OF BULK AT MOST 1048576: true; the input reads as it did. -/
def linkFirstUptoRow : OpenClaim := { program := "ytnnfdbmanamfdaagreat", sum := "28a680971968204d704f547a092d0f9ed05954835bb166bc51eca5ff41ffef26", func := "semvcs/semvcslaw06.LinkFirst", spec := "linkFirst", unfollowed := true, recurses := true, apart := false, narrowed := true }
def LinkFirstUptoSaid : Prop := linkFirstUptoRow.holds Tryz.pinned (OpenSpec.upto linkFirstSpec)

/-- 'semvcslaw02.SyntaxPrograms', WHERE WHAT IT READS IS OF BULK AT MOST 1048576: true; the input reads as it did. -/
def syntaxProgramsUptoRow : OpenClaim := { program := "ytnnfdbmanamfdaagreat", sum := "28a680971968204d704f547a092d0f9ed05954835bb166bc51eca5ff41ffef26", func := "semvcs/semvcslaw02.SyntaxPrograms", spec := "syntaxPrograms", inPlace := ["internal/abi.NoEscape"], unfollowed := true, recurses := true, apart := false, narrowed := true }
def SyntaxProgramsUptoSaid : Prop := syntaxProgramsUptoRow.holds Tryz.pinned (OpenSpec.upto syntaxProgramsSpec)

/-- 'semvcslaw02.SyntaxTokens', WHERE WHAT IT READS IS OF BULK AT MOST 1048576: true; the input reads as it did. -/
def syntaxTokensUptoRow : OpenClaim := { program := "ytnnfdbmanamfdaagreat", sum := "28a680971968204d704f547a092d0f9ed05954835bb166bc51eca5ff41ffef26", func := "semvcs/semvcslaw02.SyntaxTokens", spec := "syntaxTokens", inPlace := ["internal/abi.NoEscape"], unfollowed := true, recurses := true, apart := false, narrowed := true }
def SyntaxTokensUptoSaid : Prop := syntaxTokensUptoRow.holds Tryz.pinned (OpenSpec.upto syntaxTokensSpec)

end Rows
end Go.Proofs.YtnnfdbmanamfdaaGreat
