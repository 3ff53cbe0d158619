/-
  NARROWER THAN 'FOR EVERY INPUT', by the rows' own cells (each row's printed sentence says how): ScopeTrees: loops · SyntaxShapes: loops · SyntaxPrints: loops · SyntaxBack: loops.
  DERIVED. THE GIVEN ROWS OF THIS SEAT. 10 by the template 'for every input the law returns true; each argument reads behind the call as it read before'; 0 by the template 'total and deterministic' (their statements: YtpdmklbfbpdneaaGreatTotals.lean).
  GIVEN WITH THE SEED: the statements are not yours to turn. If you find one false, say at which input.
  Laid BY PROGRAM, IN A SANDBOX (cutbox-rows.mjs): the forced cells as the released guide's own fill.sh prints them over the translation 62dc7c6194eaafe2… (all of the seat's roots in one cut). By AI agents, Wed Nov 11 2026. No macro, syntax, notation, axiom, sorry.
-/
import Derived.Test.YtpdmklbfbpdneaaGreatChecked
import GoSem.Claim
import GoSem.ClaimJoined
import GoSem.ClaimMapViews
import Derived.JoinedTies
import Derived.KernelRfl
namespace Go.Proofs.YtpdmklbfbpdneaaGreat
/- THE CELL 'sum', in the pinned program and in every row, IS THE sha256 OF THE DUMP (.gsa) THAT YtpdmklbfbpdneaaGreatProg.lean LOADS. Nothing in Lean hashes anything: it is a label: what it is worth is what the hold of that sum in a sandbox is worth. -/
noncomputable def Tryz.pinned : Pinned := { name := "ytpdmklbfbpdneaagreat", sum := "62dc7c6194eaafe2f3d51e11c14a47026756f89b1662884c0fdb5e5e0955090a", checked := Tryz.checked }
namespace Rows
def none {H : Type} : Left H := { results := [], args := [] }

/-- 'semvcslaw05.ScopeTrees': WHATEVER THE INPUT: true; the input reads as it did. -/
def scopeTreesSpec : ChangeSpec := { name := "scopeTrees", fn := fun _ => fun
  | [d1, d2, d3] => { results := [.lit (.bool true)], args := [d1, d2, d3] }
  | _ => none }
def scopeTreesRow : OpenClaim := { program := "ytpdmklbfbpdneaagreat", sum := "62dc7c6194eaafe2f3d51e11c14a47026756f89b1662884c0fdb5e5e0955090a", func := "semvcs/semvcslaw05.ScopeTrees", spec := "scopeTrees", inPlace := ["slices.overlaps[string]"], unfollowed := true, recurses := true, loops := true, apart := false }
def ScopeTreesSaid : Prop := scopeTreesRow.holds Tryz.pinned (OpenSpec.ofChange scopeTreesSpec)

/-- ITS FALSE NEIGHBOUR: 'it returns false'. Refute it at one input. -/
def scopeTreesWrong : ChangeSpec := { name := "scopeTrees", fn := fun _ => fun
  | [d1, d2, d3] => { results := [.lit (.bool false)], args := [d1, d2, d3] }
  | _ => none }
def ScopeTreesWrongFalsely : Prop := scopeTreesRow.holds Tryz.pinned (OpenSpec.ofChange scopeTreesWrong)

/-- 'semvcslaw05.ScopeVariables': WHATEVER THE INPUT: true; the input reads as it did. -/
def scopeVariablesSpec : ChangeSpec := { name := "scopeVariables", fn := fun _ => fun
  | [d] => { results := [.lit (.bool true)], args := [d] }
  | _ => none }
def scopeVariablesRow : OpenClaim := { program := "ytpdmklbfbpdneaagreat", sum := "62dc7c6194eaafe2f3d51e11c14a47026756f89b1662884c0fdb5e5e0955090a", func := "semvcs/semvcslaw05.ScopeVariables", spec := "scopeVariables", inPlace := ["slices.overlaps[string]"], unfollowed := true, recurses := true, apart := false }
def ScopeVariablesSaid : Prop := scopeVariablesRow.holds Tryz.pinned (OpenSpec.ofChange scopeVariablesSpec)

/-- ITS FALSE NEIGHBOUR: 'it returns false'. Refute it at one input. -/
def scopeVariablesWrong : ChangeSpec := { name := "scopeVariables", fn := fun _ => fun
  | [d] => { results := [.lit (.bool false)], args := [d] }
  | _ => none }
def ScopeVariablesWrongFalsely : Prop := scopeVariablesRow.holds Tryz.pinned (OpenSpec.ofChange scopeVariablesWrong)

/-- 'semvcslaw05.ScopePlaces': WHATEVER THE INPUT: true; the input reads as it did. -/
def scopePlacesSpec : ChangeSpec := { name := "scopePlaces", fn := fun _ => fun
  | [d] => { results := [.lit (.bool true)], args := [d] }
  | _ => none }
def scopePlacesRow : OpenClaim := { program := "ytpdmklbfbpdneaagreat", sum := "62dc7c6194eaafe2f3d51e11c14a47026756f89b1662884c0fdb5e5e0955090a", func := "semvcs/semvcslaw05.ScopePlaces", spec := "scopePlaces", inPlace := ["slices.overlaps[string]"], unfollowed := true, recurses := true, apart := false }
def ScopePlacesSaid : Prop := scopePlacesRow.holds Tryz.pinned (OpenSpec.ofChange scopePlacesSpec)

/-- ITS FALSE NEIGHBOUR: 'it returns false'. Refute it at one input. -/
def scopePlacesWrong : ChangeSpec := { name := "scopePlaces", fn := fun _ => fun
  | [d] => { results := [.lit (.bool false)], args := [d] }
  | _ => none }
def ScopePlacesWrongFalsely : Prop := scopePlacesRow.holds Tryz.pinned (OpenSpec.ofChange scopePlacesWrong)

/-- 'semvcslaw05.ScopeAgrees': WHATEVER THE INPUT: true; the input reads as it did. -/
def scopeAgreesSpec : ChangeSpec := { name := "scopeAgrees", fn := fun _ => fun
  | [d] => { results := [.lit (.bool true)], args := [d] }
  | _ => none }
def scopeAgreesRow : OpenClaim := { program := "ytpdmklbfbpdneaagreat", sum := "62dc7c6194eaafe2f3d51e11c14a47026756f89b1662884c0fdb5e5e0955090a", func := "semvcs/semvcslaw05.ScopeAgrees", spec := "scopeAgrees", inPlace := ["slices.overlaps[string]"], unfollowed := true, recurses := true, apart := false }
def ScopeAgreesSaid : Prop := scopeAgreesRow.holds Tryz.pinned (OpenSpec.ofChange scopeAgreesSpec)

/-- ITS FALSE NEIGHBOUR: 'it returns false'. Refute it at one input. -/
def scopeAgreesWrong : ChangeSpec := { name := "scopeAgrees", fn := fun _ => fun
  | [d] => { results := [.lit (.bool false)], args := [d] }
  | _ => none }
def ScopeAgreesWrongFalsely : Prop := scopeAgreesRow.holds Tryz.pinned (OpenSpec.ofChange scopeAgreesWrong)

/-- 'semvcslaw05.ScopeRenames': WHATEVER THE INPUT: true; the input reads as it did. -/
def scopeRenamesSpec : ChangeSpec := { name := "scopeRenames", fn := fun _ => fun
  | [d1, d2] => { results := [.lit (.bool true)], args := [d1, d2] }
  | _ => none }
def scopeRenamesRow : OpenClaim := { program := "ytpdmklbfbpdneaagreat", sum := "62dc7c6194eaafe2f3d51e11c14a47026756f89b1662884c0fdb5e5e0955090a", func := "semvcs/semvcslaw05.ScopeRenames", spec := "scopeRenames", inPlace := ["slices.overlaps[string]"], unfollowed := true, recurses := true, apart := false }
def ScopeRenamesSaid : Prop := scopeRenamesRow.holds Tryz.pinned (OpenSpec.ofChange scopeRenamesSpec)

/-- ITS FALSE NEIGHBOUR: 'it returns false'. Refute it at one input. -/
def scopeRenamesWrong : ChangeSpec := { name := "scopeRenames", fn := fun _ => fun
  | [d1, d2] => { results := [.lit (.bool false)], args := [d1, d2] }
  | _ => none }
def ScopeRenamesWrongFalsely : Prop := scopeRenamesRow.holds Tryz.pinned (OpenSpec.ofChange scopeRenamesWrong)

/-- 'semvcslaw02.SyntaxShapes': WHATEVER THE INPUT: true; the input reads as it did. -/
def syntaxShapesSpec : ChangeSpec := { name := "syntaxShapes", fn := fun _ => fun
  | [d] => { results := [.lit (.bool true)], args := [d] }
  | _ => none }
def syntaxShapesRow : OpenClaim := { program := "ytpdmklbfbpdneaagreat", sum := "62dc7c6194eaafe2f3d51e11c14a47026756f89b1662884c0fdb5e5e0955090a", func := "semvcs/semvcslaw02.SyntaxShapes", spec := "syntaxShapes", inPlace := ["internal/abi.NoEscape"], unfollowed := true, recurses := true, loops := true, apart := false }
def SyntaxShapesSaid : Prop := syntaxShapesRow.holds Tryz.pinned (OpenSpec.ofChange syntaxShapesSpec)

/-- ITS FALSE NEIGHBOUR: 'it returns false'. Refute it at one input. -/
def syntaxShapesWrong : ChangeSpec := { name := "syntaxShapes", fn := fun _ => fun
  | [d] => { results := [.lit (.bool false)], args := [d] }
  | _ => none }
def SyntaxShapesWrongFalsely : Prop := syntaxShapesRow.holds Tryz.pinned (OpenSpec.ofChange syntaxShapesWrong)

/-- 'semvcslaw02.SyntaxPrints': WHATEVER THE INPUT: true; the input reads as it did. -/
def syntaxPrintsSpec : ChangeSpec := { name := "syntaxPrints", fn := fun _ => fun
  | [d] => { results := [.lit (.bool true)], args := [d] }
  | _ => none }
def syntaxPrintsRow : OpenClaim := { program := "ytpdmklbfbpdneaagreat", sum := "62dc7c6194eaafe2f3d51e11c14a47026756f89b1662884c0fdb5e5e0955090a", func := "semvcs/semvcslaw02.SyntaxPrints", spec := "syntaxPrints", inPlace := ["internal/abi.NoEscape"], unfollowed := true, recurses := true, loops := true, apart := false }
def SyntaxPrintsSaid : Prop := syntaxPrintsRow.holds Tryz.pinned (OpenSpec.ofChange syntaxPrintsSpec)

/-- ITS FALSE NEIGHBOUR: 'it returns false'. Refute it at one input. -/
def syntaxPrintsWrong : ChangeSpec := { name := "syntaxPrints", fn := fun _ => fun
  | [d] => { results := [.lit (.bool false)], args := [d] }
  | _ => none }
def SyntaxPrintsWrongFalsely : Prop := syntaxPrintsRow.holds Tryz.pinned (OpenSpec.ofChange syntaxPrintsWrong)

/-- 'semvcslaw02.SyntaxPrograms': WHATEVER THE INPUT: true; the input reads as it did. -/
def syntaxProgramsSpec : ChangeSpec := { name := "syntaxPrograms", fn := fun _ => fun
  | [d] => { results := [.lit (.bool true)], args := [d] }
  | _ => none }
def syntaxProgramsRow : OpenClaim := { program := "ytpdmklbfbpdneaagreat", sum := "62dc7c6194eaafe2f3d51e11c14a47026756f89b1662884c0fdb5e5e0955090a", func := "semvcs/semvcslaw02.SyntaxPrograms", spec := "syntaxPrograms", inPlace := ["internal/abi.NoEscape"], unfollowed := true, recurses := true, apart := false }
def SyntaxProgramsSaid : Prop := syntaxProgramsRow.holds Tryz.pinned (OpenSpec.ofChange syntaxProgramsSpec)

/-- ITS FALSE NEIGHBOUR: 'it returns false'. Refute it at one input. -/
def syntaxProgramsWrong : ChangeSpec := { name := "syntaxPrograms", fn := fun _ => fun
  | [d] => { results := [.lit (.bool false)], args := [d] }
  | _ => none }
def SyntaxProgramsWrongFalsely : Prop := syntaxProgramsRow.holds Tryz.pinned (OpenSpec.ofChange syntaxProgramsWrong)

/-- 'semvcslaw02.SyntaxBack': WHATEVER THE INPUT: true; the input reads as it did. -/
def syntaxBackSpec : ChangeSpec := { name := "syntaxBack", fn := fun _ => fun
  | [d] => { results := [.lit (.bool true)], args := [d] }
  | _ => none }
def syntaxBackRow : OpenClaim := { program := "ytpdmklbfbpdneaagreat", sum := "62dc7c6194eaafe2f3d51e11c14a47026756f89b1662884c0fdb5e5e0955090a", func := "semvcs/semvcslaw02.SyntaxBack", spec := "syntaxBack", inPlace := ["internal/abi.NoEscape"], unfollowed := true, recurses := true, loops := true, apart := false }
def SyntaxBackSaid : Prop := syntaxBackRow.holds Tryz.pinned (OpenSpec.ofChange syntaxBackSpec)

/-- ITS FALSE NEIGHBOUR: 'it returns false'. Refute it at one input. -/
def syntaxBackWrong : ChangeSpec := { name := "syntaxBack", fn := fun _ => fun
  | [d] => { results := [.lit (.bool false)], args := [d] }
  | _ => none }
def SyntaxBackWrongFalsely : Prop := syntaxBackRow.holds Tryz.pinned (OpenSpec.ofChange syntaxBackWrong)

/-- 'semvcslaw02.SyntaxTokens': WHATEVER THE INPUT: true; the input reads as it did. -/
def syntaxTokensSpec : ChangeSpec := { name := "syntaxTokens", fn := fun _ => fun
  | [d] => { results := [.lit (.bool true)], args := [d] }
  | _ => none }
def syntaxTokensRow : OpenClaim := { program := "ytpdmklbfbpdneaagreat", sum := "62dc7c6194eaafe2f3d51e11c14a47026756f89b1662884c0fdb5e5e0955090a", func := "semvcs/semvcslaw02.SyntaxTokens", spec := "syntaxTokens", inPlace := ["internal/abi.NoEscape"], unfollowed := true, recurses := true, apart := false }
def SyntaxTokensSaid : Prop := syntaxTokensRow.holds Tryz.pinned (OpenSpec.ofChange syntaxTokensSpec)

/-- ITS FALSE NEIGHBOUR: 'it returns false'. Refute it at one input. -/
def syntaxTokensWrong : ChangeSpec := { name := "syntaxTokens", fn := fun _ => fun
  | [d] => { results := [.lit (.bool false)], args := [d] }
  | _ => none }
def SyntaxTokensWrongFalsely : Prop := syntaxTokensRow.holds Tryz.pinned (OpenSpec.ofChange syntaxTokensWrong)

/- THE SECOND FORM. 'bulk': how many values and letters a reading holds, each counted each time it is reached (what is shared counts as often as it is met; a slice's spare places count too). A statement '..UptoSaid' is the law's where the arguments, and the package variables that the reading takes, are together of bulk at most 1048576: NARROWER than '..Said'. Prove '..Said' where nothing that the law and all that it calls make is longer than what came in: it says more and counts as full. Else prove '..UptoSaid'. A law counts once. -/
mutual
def uptoBulk {H : Type} : DataW H → Nat
  | .lit (.string bytes) => bytes.length + 1
  | .lit _ => 1
  | .nil => 1
  | .ptr d => uptoBulk d + 1
  | .slice elems spare => uptoBulkAll elems + uptoBulkAll spare + 1
  | .agg parts => uptoBulkAll parts + 1
  | .iface _ d => uptoBulk d + 1
  | .map entries => uptoBulkEntries entries + 1
  | .held _ => 1
def uptoBulkAll {H : Type} : List (DataW H) → Nat
  | [] => 0
  | d :: r => uptoBulk d + uptoBulkAll r
def uptoBulkEntries {H : Type} : List (Lit × DataW H) → Nat
  | [] => 0
  | x :: r => uptoBulkEntry x + uptoBulkEntries r
def uptoBulkEntry {H : Type} : Lit × DataW H → Nat
  | (.string bytes, d) => bytes.length + uptoBulk d + 1
  | (_, d) => uptoBulk d + 1
 end
def uptoSmall : (H : Type) → List (DataW H) → Bool := fun _ ds => decide (uptoBulkAll ds ≤ 1048576)
def OpenSpec.upto (s : _root_.Go.ChangeSpec) : _root_.Go.OpenSpec := { _root_.Go.OpenSpec.ofChange s with cond := some uptoSmall }

/-- 'semvcslaw05.ScopeTrees', WHERE WHAT IT READS IS OF BULK AT MOST 1048576: true; the input reads as it did. -/
def scopeTreesUptoRow : OpenClaim := { program := "ytpdmklbfbpdneaagreat", sum := "62dc7c6194eaafe2f3d51e11c14a47026756f89b1662884c0fdb5e5e0955090a", func := "semvcs/semvcslaw05.ScopeTrees", spec := "scopeTrees", inPlace := ["slices.overlaps[string]"], unfollowed := true, recurses := true, loops := true, apart := false, narrowed := true }
def ScopeTreesUptoSaid : Prop := scopeTreesUptoRow.holds Tryz.pinned (OpenSpec.upto scopeTreesSpec)

/-- 'semvcslaw05.ScopeVariables', WHERE WHAT IT READS IS OF BULK AT MOST 1048576: true; the input reads as it did. -/
def scopeVariablesUptoRow : OpenClaim := { program := "ytpdmklbfbpdneaagreat", sum := "62dc7c6194eaafe2f3d51e11c14a47026756f89b1662884c0fdb5e5e0955090a", func := "semvcs/semvcslaw05.ScopeVariables", spec := "scopeVariables", inPlace := ["slices.overlaps[string]"], unfollowed := true, recurses := true, apart := false, narrowed := true }
def ScopeVariablesUptoSaid : Prop := scopeVariablesUptoRow.holds Tryz.pinned (OpenSpec.upto scopeVariablesSpec)

/-- 'semvcslaw05.ScopePlaces', WHERE WHAT IT READS IS OF BULK AT MOST 1048576: true; the input reads as it did. -/
def scopePlacesUptoRow : OpenClaim := { program := "ytpdmklbfbpdneaagreat", sum := "62dc7c6194eaafe2f3d51e11c14a47026756f89b1662884c0fdb5e5e0955090a", func := "semvcs/semvcslaw05.ScopePlaces", spec := "scopePlaces", inPlace := ["slices.overlaps[string]"], unfollowed := true, recurses := true, apart := false, narrowed := true }
def ScopePlacesUptoSaid : Prop := scopePlacesUptoRow.holds Tryz.pinned (OpenSpec.upto scopePlacesSpec)

/-- 'semvcslaw05.ScopeAgrees', WHERE WHAT IT READS IS OF BULK AT MOST 1048576: true; the input reads as it did. -/
def scopeAgreesUptoRow : OpenClaim := { program := "ytpdmklbfbpdneaagreat", sum := "62dc7c6194eaafe2f3d51e11c14a47026756f89b1662884c0fdb5e5e0955090a", func := "semvcs/semvcslaw05.ScopeAgrees", spec := "scopeAgrees", inPlace := ["slices.overlaps[string]"], unfollowed := true, recurses := true, apart := false, narrowed := true }
def ScopeAgreesUptoSaid : Prop := scopeAgreesUptoRow.holds Tryz.pinned (OpenSpec.upto scopeAgreesSpec)

/-- 'semvcslaw05.ScopeRenames', WHERE WHAT IT READS IS OF BULK AT MOST 1048576: true; the input reads as it did. -/
def scopeRenamesUptoRow : OpenClaim := { program := "ytpdmklbfbpdneaagreat", sum := "62dc7c6194eaafe2f3d51e11c14a47026756f89b1662884c0fdb5e5e0955090a", func := "semvcs/semvcslaw05.ScopeRenames", spec := "scopeRenames", inPlace := ["slices.overlaps[string]"], unfollowed := true, recurses := true, apart := false, narrowed := true }
def ScopeRenamesUptoSaid : Prop := scopeRenamesUptoRow.holds Tryz.pinned (OpenSpec.upto scopeRenamesSpec)

/-- 'semvcslaw02.SyntaxShapes', WHERE WHAT IT READS IS OF BULK AT MOST 1048576: true; the input reads as it did. -/
def syntaxShapesUptoRow : OpenClaim := { program := "ytpdmklbfbpdneaagreat", sum := "62dc7c6194eaafe2f3d51e11c14a47026756f89b1662884c0fdb5e5e0955090a", func := "semvcs/semvcslaw02.SyntaxShapes", spec := "syntaxShapes", inPlace := ["internal/abi.NoEscape"], unfollowed := true, recurses := true, loops := true, apart := false, narrowed := true }
def SyntaxShapesUptoSaid : Prop := syntaxShapesUptoRow.holds Tryz.pinned (OpenSpec.upto syntaxShapesSpec)

/-- 'semvcslaw02.SyntaxPrints', WHERE WHAT IT READS IS OF BULK AT MOST 1048576: true; the input reads as it did. -/
def syntaxPrintsUptoRow : OpenClaim := { program := "ytpdmklbfbpdneaagreat", sum := "62dc7c6194eaafe2f3d51e11c14a47026756f89b1662884c0fdb5e5e0955090a", func := "semvcs/semvcslaw02.SyntaxPrints", spec := "syntaxPrints", inPlace := ["internal/abi.NoEscape"], unfollowed := true, recurses := true, loops := true, apart := false, narrowed := true }
def SyntaxPrintsUptoSaid : Prop := syntaxPrintsUptoRow.holds Tryz.pinned (OpenSpec.upto syntaxPrintsSpec)

/-- 'semvcslaw02.SyntaxPrograms', WHERE WHAT IT READS IS OF BULK AT MOST 1048576: true; the input reads as it did. -/
def syntaxProgramsUptoRow : OpenClaim := { program := "ytpdmklbfbpdneaagreat", sum := "62dc7c6194eaafe2f3d51e11c14a47026756f89b1662884c0fdb5e5e0955090a", func := "semvcs/semvcslaw02.SyntaxPrograms", spec := "syntaxPrograms", inPlace := ["internal/abi.NoEscape"], unfollowed := true, recurses := true, apart := false, narrowed := true }
def SyntaxProgramsUptoSaid : Prop := syntaxProgramsUptoRow.holds Tryz.pinned (OpenSpec.upto syntaxProgramsSpec)

/-- 'semvcslaw02.SyntaxBack', WHERE WHAT IT READS IS OF BULK AT MOST 1048576: true; the input reads as it did. -/
def syntaxBackUptoRow : OpenClaim := { program := "ytpdmklbfbpdneaagreat", sum := "62dc7c6194eaafe2f3d51e11c14a47026756f89b1662884c0fdb5e5e0955090a", func := "semvcs/semvcslaw02.SyntaxBack", spec := "syntaxBack", inPlace := ["internal/abi.NoEscape"], unfollowed := true, recurses := true, loops := true, apart := false, narrowed := true }
def SyntaxBackUptoSaid : Prop := syntaxBackUptoRow.holds Tryz.pinned (OpenSpec.upto syntaxBackSpec)

/-- 'semvcslaw02.SyntaxTokens', WHERE WHAT IT READS IS OF BULK AT MOST 1048576: true; the input reads as it did. -/
def syntaxTokensUptoRow : OpenClaim := { program := "ytpdmklbfbpdneaagreat", sum := "62dc7c6194eaafe2f3d51e11c14a47026756f89b1662884c0fdb5e5e0955090a", func := "semvcs/semvcslaw02.SyntaxTokens", spec := "syntaxTokens", inPlace := ["internal/abi.NoEscape"], unfollowed := true, recurses := true, apart := false, narrowed := true }
def SyntaxTokensUptoSaid : Prop := syntaxTokensUptoRow.holds Tryz.pinned (OpenSpec.upto syntaxTokensSpec)

end Rows
end Go.Proofs.YtpdmklbfbpdneaaGreat
