/-
  NARROWER THAN 'FOR EVERY INPUT', by the rows' own cells (each row's printed sentence says how): TypesTrees: loops · ScopeTrees: loops.
  DERIVED. THE GIVEN ROWS OF THIS SEAT. 9 by the template 'for every input the law returns true; each argument reads behind the call as it read before'; 0 by the template 'total and deterministic' (their statements: YtclkilljmdkfaaaGreatTotals.lean).
  GIVEN WITH THE SEED: the statements are not yours to turn. If you find one false, say at which input.
  Laid BY PROGRAM, IN A SANDBOX (cutbox-rows.mjs): the forced cells as the released guide's own fill.sh prints them over the translation c4d57592275ff9c0… (all of the seat's roots in one cut). By AI agents, Wed Nov 11 2026. No macro, syntax, notation, axiom, sorry.
-/
import Derived.Test.YtclkilljmdkfaaaGreatChecked
import GoSem.Claim
import GoSem.ClaimJoined
import GoSem.ClaimMapViews
import Derived.JoinedTies
import Derived.KernelRfl
namespace Go.Proofs.YtclkilljmdkfaaaGreat
/- THE CELL 'sum', in the pinned program and in every row, IS THE sha256 OF THE DUMP (.gsa) THAT YtclkilljmdkfaaaGreatProg.lean LOADS. Nothing in Lean hashes anything: it is a label: what it is worth is what the hold of that sum in a sandbox is worth. -/
noncomputable def Tryz.pinned : Pinned := { name := "ytclkilljmdkfaaagreat", sum := "c4d57592275ff9c0e42f06d99efb1c2b3ea6724ce012ce341ae3bb3123807f98", checked := Tryz.checked }
namespace Rows
def none {H : Type} : Left H := { results := [], args := [] }

/-- 'semvcslaw07.TypesTrees': WHATEVER THE INPUT: true; the input reads as it did. -/
def typesTreesSpec : ChangeSpec := { name := "typesTrees", fn := fun _ => fun
  | [d1, d2, d3, d4, d5] => { results := [.lit (.bool true)], args := [d1, d2, d3, d4, d5] }
  | _ => none }
def typesTreesRow : OpenClaim := { program := "ytclkilljmdkfaaagreat", sum := "c4d57592275ff9c0e42f06d99efb1c2b3ea6724ce012ce341ae3bb3123807f98", func := "semvcs/semvcslaw07.TypesTrees", spec := "typesTrees", unfollowed := true, recurses := true, loops := true, plainKeys := false, apart := false }
def TypesTreesSaid : Prop := typesTreesRow.holds Tryz.pinned (OpenSpec.ofChange typesTreesSpec)

/-- ITS FALSE NEIGHBOUR: 'it returns false'. Refute it at one input. -/
def typesTreesWrong : ChangeSpec := { name := "typesTrees", fn := fun _ => fun
  | [d1, d2, d3, d4, d5] => { results := [.lit (.bool false)], args := [d1, d2, d3, d4, d5] }
  | _ => none }
def TypesTreesWrongFalsely : Prop := typesTreesRow.holds Tryz.pinned (OpenSpec.ofChange typesTreesWrong)

/-- 'semvcslaw07.TypesPrograms': WHATEVER THE INPUT: true; the input reads as it did. -/
def typesProgramsSpec : ChangeSpec := { name := "typesPrograms", fn := fun _ => fun
  | [d] => { results := [.lit (.bool true)], args := [d] }
  | _ => none }
def typesProgramsRow : OpenClaim := { program := "ytclkilljmdkfaaagreat", sum := "c4d57592275ff9c0e42f06d99efb1c2b3ea6724ce012ce341ae3bb3123807f98", func := "semvcs/semvcslaw07.TypesPrograms", spec := "typesPrograms", unfollowed := true, recurses := true, plainKeys := false, apart := false }
def TypesProgramsSaid : Prop := typesProgramsRow.holds Tryz.pinned (OpenSpec.ofChange typesProgramsSpec)

/-- ITS FALSE NEIGHBOUR: 'it returns false'. Refute it at one input. -/
def typesProgramsWrong : ChangeSpec := { name := "typesPrograms", fn := fun _ => fun
  | [d] => { results := [.lit (.bool false)], args := [d] }
  | _ => none }
def TypesProgramsWrongFalsely : Prop := typesProgramsRow.holds Tryz.pinned (OpenSpec.ofChange typesProgramsWrong)

/-- 'semvcslaw07.TypesFlat': WHATEVER THE INPUT: true; the input reads as it did. -/
def typesFlatSpec : ChangeSpec := { name := "typesFlat", fn := fun _ => fun
  | [d] => { results := [.lit (.bool true)], args := [d] }
  | _ => none }
def typesFlatRow : OpenClaim := { program := "ytclkilljmdkfaaagreat", sum := "c4d57592275ff9c0e42f06d99efb1c2b3ea6724ce012ce341ae3bb3123807f98", func := "semvcs/semvcslaw07.TypesFlat", spec := "typesFlat", unfollowed := true, recurses := true, plainKeys := false, apart := false }
def TypesFlatSaid : Prop := typesFlatRow.holds Tryz.pinned (OpenSpec.ofChange typesFlatSpec)

/-- ITS FALSE NEIGHBOUR: 'it returns false'. Refute it at one input. -/
def typesFlatWrong : ChangeSpec := { name := "typesFlat", fn := fun _ => fun
  | [d] => { results := [.lit (.bool false)], args := [d] }
  | _ => none }
def TypesFlatWrongFalsely : Prop := typesFlatRow.holds Tryz.pinned (OpenSpec.ofChange typesFlatWrong)

/-- 'semvcslaw02.SyntaxPrograms': WHATEVER THE INPUT: true; the input reads as it did. -/
def syntaxProgramsSpec : ChangeSpec := { name := "syntaxPrograms", fn := fun _ => fun
  | [d] => { results := [.lit (.bool true)], args := [d] }
  | _ => none }
def syntaxProgramsRow : OpenClaim := { program := "ytclkilljmdkfaaagreat", sum := "c4d57592275ff9c0e42f06d99efb1c2b3ea6724ce012ce341ae3bb3123807f98", func := "semvcs/semvcslaw02.SyntaxPrograms", spec := "syntaxPrograms", inPlace := ["internal/abi.NoEscape"], unfollowed := true, recurses := true, plainKeys := false, apart := false }
def SyntaxProgramsSaid : Prop := syntaxProgramsRow.holds Tryz.pinned (OpenSpec.ofChange syntaxProgramsSpec)

/-- ITS FALSE NEIGHBOUR: 'it returns false'. Refute it at one input. -/
def syntaxProgramsWrong : ChangeSpec := { name := "syntaxPrograms", fn := fun _ => fun
  | [d] => { results := [.lit (.bool false)], args := [d] }
  | _ => none }
def SyntaxProgramsWrongFalsely : Prop := syntaxProgramsRow.holds Tryz.pinned (OpenSpec.ofChange syntaxProgramsWrong)

/-- 'semvcslaw05.ScopeTrees': WHATEVER THE INPUT: true; the input reads as it did. -/
def scopeTreesSpec : ChangeSpec := { name := "scopeTrees", fn := fun _ => fun
  | [d1, d2, d3] => { results := [.lit (.bool true)], args := [d1, d2, d3] }
  | _ => none }
def scopeTreesRow : OpenClaim := { program := "ytclkilljmdkfaaagreat", sum := "c4d57592275ff9c0e42f06d99efb1c2b3ea6724ce012ce341ae3bb3123807f98", func := "semvcs/semvcslaw05.ScopeTrees", spec := "scopeTrees", inPlace := ["slices.overlaps[string]"], unfollowed := true, recurses := true, loops := true, plainKeys := false, apart := false }
def ScopeTreesSaid : Prop := scopeTreesRow.holds Tryz.pinned (OpenSpec.ofChange scopeTreesSpec)

/-- ITS FALSE NEIGHBOUR: 'it returns false'. Refute it at one input. -/
def scopeTreesWrong : ChangeSpec := { name := "scopeTrees", fn := fun _ => fun
  | [d1, d2, d3] => { results := [.lit (.bool false)], args := [d1, d2, d3] }
  | _ => none }
def ScopeTreesWrongFalsely : Prop := scopeTreesRow.holds Tryz.pinned (OpenSpec.ofChange scopeTreesWrong)

/-- 'semvcslaw05.ScopeVariables': WHATEVER THE INPUT: true; the input reads as it did. -/
def scopeVariablesSpec : ChangeSpec := { name := "scopeVariables", fn := fun _ => fun
  | [d] => { results := [.lit (.bool true)], args := [d] }
  | _ => none }
def scopeVariablesRow : OpenClaim := { program := "ytclkilljmdkfaaagreat", sum := "c4d57592275ff9c0e42f06d99efb1c2b3ea6724ce012ce341ae3bb3123807f98", func := "semvcs/semvcslaw05.ScopeVariables", spec := "scopeVariables", inPlace := ["slices.overlaps[string]"], unfollowed := true, recurses := true, plainKeys := false, apart := false }
def ScopeVariablesSaid : Prop := scopeVariablesRow.holds Tryz.pinned (OpenSpec.ofChange scopeVariablesSpec)

/-- ITS FALSE NEIGHBOUR: 'it returns false'. Refute it at one input. -/
def scopeVariablesWrong : ChangeSpec := { name := "scopeVariables", fn := fun _ => fun
  | [d] => { results := [.lit (.bool false)], args := [d] }
  | _ => none }
def ScopeVariablesWrongFalsely : Prop := scopeVariablesRow.holds Tryz.pinned (OpenSpec.ofChange scopeVariablesWrong)

/-- 'semvcslaw05.ScopePlaces': WHATEVER THE INPUT: true; the input reads as it did. -/
def scopePlacesSpec : ChangeSpec := { name := "scopePlaces", fn := fun _ => fun
  | [d] => { results := [.lit (.bool true)], args := [d] }
  | _ => none }
def scopePlacesRow : OpenClaim := { program := "ytclkilljmdkfaaagreat", sum := "c4d57592275ff9c0e42f06d99efb1c2b3ea6724ce012ce341ae3bb3123807f98", func := "semvcs/semvcslaw05.ScopePlaces", spec := "scopePlaces", inPlace := ["slices.overlaps[string]"], unfollowed := true, recurses := true, plainKeys := false, apart := false }
def ScopePlacesSaid : Prop := scopePlacesRow.holds Tryz.pinned (OpenSpec.ofChange scopePlacesSpec)

/-- ITS FALSE NEIGHBOUR: 'it returns false'. Refute it at one input. -/
def scopePlacesWrong : ChangeSpec := { name := "scopePlaces", fn := fun _ => fun
  | [d] => { results := [.lit (.bool false)], args := [d] }
  | _ => none }
def ScopePlacesWrongFalsely : Prop := scopePlacesRow.holds Tryz.pinned (OpenSpec.ofChange scopePlacesWrong)

/-- 'semvcslaw05.ScopeAgrees': WHATEVER THE INPUT: true; the input reads as it did. -/
def scopeAgreesSpec : ChangeSpec := { name := "scopeAgrees", fn := fun _ => fun
  | [d] => { results := [.lit (.bool true)], args := [d] }
  | _ => none }
def scopeAgreesRow : OpenClaim := { program := "ytclkilljmdkfaaagreat", sum := "c4d57592275ff9c0e42f06d99efb1c2b3ea6724ce012ce341ae3bb3123807f98", func := "semvcs/semvcslaw05.ScopeAgrees", spec := "scopeAgrees", inPlace := ["slices.overlaps[string]"], unfollowed := true, recurses := true, plainKeys := false, apart := false }
def ScopeAgreesSaid : Prop := scopeAgreesRow.holds Tryz.pinned (OpenSpec.ofChange scopeAgreesSpec)

/-- ITS FALSE NEIGHBOUR: 'it returns false'. Refute it at one input. -/
def scopeAgreesWrong : ChangeSpec := { name := "scopeAgrees", fn := fun _ => fun
  | [d] => { results := [.lit (.bool false)], args := [d] }
  | _ => none }
def ScopeAgreesWrongFalsely : Prop := scopeAgreesRow.holds Tryz.pinned (OpenSpec.ofChange scopeAgreesWrong)

/-- 'semvcslaw05.ScopeRenames': WHATEVER THE INPUT: true; the input reads as it did. -/
def scopeRenamesSpec : ChangeSpec := { name := "scopeRenames", fn := fun _ => fun
  | [d1, d2] => { results := [.lit (.bool true)], args := [d1, d2] }
  | _ => none }
def scopeRenamesRow : OpenClaim := { program := "ytclkilljmdkfaaagreat", sum := "c4d57592275ff9c0e42f06d99efb1c2b3ea6724ce012ce341ae3bb3123807f98", func := "semvcs/semvcslaw05.ScopeRenames", spec := "scopeRenames", inPlace := ["slices.overlaps[string]"], unfollowed := true, recurses := true, plainKeys := false, apart := false }
def ScopeRenamesSaid : Prop := scopeRenamesRow.holds Tryz.pinned (OpenSpec.ofChange scopeRenamesSpec)

/-- ITS FALSE NEIGHBOUR: 'it returns false'. Refute it at one input. -/
def scopeRenamesWrong : ChangeSpec := { name := "scopeRenames", fn := fun _ => fun
  | [d1, d2] => { results := [.lit (.bool false)], args := [d1, d2] }
  | _ => none }
def ScopeRenamesWrongFalsely : Prop := scopeRenamesRow.holds Tryz.pinned (OpenSpec.ofChange scopeRenamesWrong)

/- THE SECOND FORM. 'bulk': how many values and letters a reading holds, each counted each time it is reached (what is shared counts as often as it is met; a slice's spare places count too). A statement '..UptoSaid' is the law's where the arguments, and the package variables that the reading takes, are together of bulk at most 1048576: NARROWER than '..Said'. Prove '..Said' where nothing that the law and all that it calls make is longer than what came in: it says more and counts as full. Else prove '..UptoSaid'. A law counts once. -/
mutual
def uptoBulk {H : Type} : DataW H → Nat
  | .lit (.string bytes) => bytes.length + 1
  | .lit _ => 1
  | .nil => 1
  | .ptr d => uptoBulk d + 1
  | .slice elems spare => uptoBulkAll elems + uptoBulkAll spare + 1
  | .agg parts => uptoBulkAll parts + 1
  | .iface _ d => uptoBulk d + 1
  | .map entries => uptoBulkEntries entries + 1
  | .held _ => 1
def uptoBulkAll {H : Type} : List (DataW H) → Nat
  | [] => 0
  | d :: r => uptoBulk d + uptoBulkAll r
def uptoBulkEntries {H : Type} : List (Lit × DataW H) → Nat
  | [] => 0
  | x :: r => uptoBulkEntry x + uptoBulkEntries r
def uptoBulkEntry {H : Type} : Lit × DataW H → Nat
  | (.string bytes, d) => bytes.length + uptoBulk d + 1
  | (_, d) => uptoBulk d + 1
 end
def uptoSmall : (H : Type) → List (DataW H) → Bool := fun _ ds => decide (uptoBulkAll ds ≤ 1048576)
def OpenSpec.upto (s : _root_.Go.ChangeSpec) : _root_.Go.OpenSpec := { _root_.Go.OpenSpec.ofChange s with cond := some uptoSmall }

/-- 'semvcslaw07.TypesTrees', WHERE WHAT IT READS IS OF BULK AT MOST 1048576: true; the input reads as it did. -/
def typesTreesUptoRow : OpenClaim := { program := "ytclkilljmdkfaaagreat", sum := "c4d57592275ff9c0e42f06d99efb1c2b3ea6724ce012ce341ae3bb3123807f98", func := "semvcs/semvcslaw07.TypesTrees", spec := "typesTrees", unfollowed := true, recurses := true, loops := true, plainKeys := false, apart := false, narrowed := true }
def TypesTreesUptoSaid : Prop := typesTreesUptoRow.holds Tryz.pinned (OpenSpec.upto typesTreesSpec)

/-- 'semvcslaw07.TypesPrograms', WHERE WHAT IT READS IS OF BULK AT MOST 1048576: true; the input reads as it did. -/
def typesProgramsUptoRow : OpenClaim := { program := "ytclkilljmdkfaaagreat", sum := "c4d57592275ff9c0e42f06d99efb1c2b3ea6724ce012ce341ae3bb3123807f98", func := "semvcs/semvcslaw07.TypesPrograms", spec := "typesPrograms", unfollowed := true, recurses := true, plainKeys := false, apart := false, narrowed := true }
def TypesProgramsUptoSaid : Prop := typesProgramsUptoRow.holds Tryz.pinned (OpenSpec.upto typesProgramsSpec)

/-- 'semvcslaw07.TypesFlat', WHERE WHAT IT READS IS OF BULK AT MOST 1048576: true; the input reads as it did. -/
def typesFlatUptoRow : OpenClaim := { program := "ytclkilljmdkfaaagreat", sum := "c4d57592275ff9c0e42f06d99efb1c2b3ea6724ce012ce341ae3bb3123807f98", func := "semvcs/semvcslaw07.TypesFlat", spec := "typesFlat", unfollowed := true, recurses := true, plainKeys := false, apart := false, narrowed := true }
def TypesFlatUptoSaid : Prop := typesFlatUptoRow.holds Tryz.pinned (OpenSpec.upto typesFlatSpec)

/-- 'semvcslaw02.SyntaxPrograms', WHERE WHAT IT READS IS OF BULK AT MOST 1048576: true; the input reads as it did. -/
def syntaxProgramsUptoRow : OpenClaim := { program := "ytclkilljmdkfaaagreat", sum := "c4d57592275ff9c0e42f06d99efb1c2b3ea6724ce012ce341ae3bb3123807f98", func := "semvcs/semvcslaw02.SyntaxPrograms", spec := "syntaxPrograms", inPlace := ["internal/abi.NoEscape"], unfollowed := true, recurses := true, plainKeys := false, apart := false, narrowed := true }
def SyntaxProgramsUptoSaid : Prop := syntaxProgramsUptoRow.holds Tryz.pinned (OpenSpec.upto syntaxProgramsSpec)

/-- 'semvcslaw05.ScopeTrees', WHERE WHAT IT READS IS OF BULK AT MOST 1048576: true; the input reads as it did. -/
def scopeTreesUptoRow : OpenClaim := { program := "ytclkilljmdkfaaagreat", sum := "c4d57592275ff9c0e42f06d99efb1c2b3ea6724ce012ce341ae3bb3123807f98", func := "semvcs/semvcslaw05.ScopeTrees", spec := "scopeTrees", inPlace := ["slices.overlaps[string]"], unfollowed := true, recurses := true, loops := true, plainKeys := false, apart := false, narrowed := true }
def ScopeTreesUptoSaid : Prop := scopeTreesUptoRow.holds Tryz.pinned (OpenSpec.upto scopeTreesSpec)

/-- 'semvcslaw05.ScopeVariables', WHERE WHAT IT READS IS OF BULK AT MOST 1048576: true; the input reads as it did. -/
def scopeVariablesUptoRow : OpenClaim := { program := "ytclkilljmdkfaaagreat", sum := "c4d57592275ff9c0e42f06d99efb1c2b3ea6724ce012ce341ae3bb3123807f98", func := "semvcs/semvcslaw05.ScopeVariables", spec := "scopeVariables", inPlace := ["slices.overlaps[string]"], unfollowed := true, recurses := true, plainKeys := false, apart := false, narrowed := true }
def ScopeVariablesUptoSaid : Prop := scopeVariablesUptoRow.holds Tryz.pinned (OpenSpec.upto scopeVariablesSpec)

/-- 'semvcslaw05.ScopePlaces', WHERE WHAT IT READS IS OF BULK AT MOST 1048576: true; the input reads as it did. -/
def scopePlacesUptoRow : OpenClaim := { program := "ytclkilljmdkfaaagreat", sum := "c4d57592275ff9c0e42f06d99efb1c2b3ea6724ce012ce341ae3bb3123807f98", func := "semvcs/semvcslaw05.ScopePlaces", spec := "scopePlaces", inPlace := ["slices.overlaps[string]"], unfollowed := true, recurses := true, plainKeys := false, apart := false, narrowed := true }
def ScopePlacesUptoSaid : Prop := scopePlacesUptoRow.holds Tryz.pinned (OpenSpec.upto scopePlacesSpec)

/-- 'semvcslaw05.ScopeAgrees', WHERE WHAT IT READS IS OF BULK AT MOST 1048576: true; the input reads as it did. -/
def scopeAgreesUptoRow : OpenClaim := { program := "ytclkilljmdkfaaagreat", sum := "c4d57592275ff9c0e42f06d99efb1c2b3ea6724ce012ce341ae3bb3123807f98", func := "semvcs/semvcslaw05.ScopeAgrees", spec := "scopeAgrees", inPlace := ["slices.overlaps[string]"], unfollowed := true, recurses := true, plainKeys := false, apart := false, narrowed := true }
def ScopeAgreesUptoSaid : Prop := scopeAgreesUptoRow.holds Tryz.pinned (OpenSpec.upto scopeAgreesSpec)

/-- 'semvcslaw05.ScopeRenames', WHERE WHAT IT READS IS OF BULK AT MOST 1048576: true; the input reads as it did. -/
def scopeRenamesUptoRow : OpenClaim := { program := "ytclkilljmdkfaaagreat", sum := "c4d57592275ff9c0e42f06d99efb1c2b3ea6724ce012ce341ae3bb3123807f98", func := "semvcs/semvcslaw05.ScopeRenames", spec := "scopeRenames", inPlace := ["slices.overlaps[string]"], unfollowed := true, recurses := true, plainKeys := false, apart := false, narrowed := true }
def ScopeRenamesUptoSaid : Prop := scopeRenamesUptoRow.holds Tryz.pinned (OpenSpec.upto scopeRenamesSpec)

end Rows
end Go.Proofs.YtclkilljmdkfaaaGreat
