/- The contracts of the tests of tokens, of sort.has, definitionKind, typeKind. No condition. -/
import Derived.Test.YtpdmklbfbpdneaaGreatSynParts
namespace Go.Proofs.YtpdmklbfbpdneaaGreat
open Go.RowKit
theorem is_list (x : ByteArray) (l : List UInt8) : (x.toList == l) = is x l := by rw [ByteArray.toList_eq]; rfl
set_option maxHeartbeats 400000 in
theorem upper_syn (t : Tok) (w : World) : Calls Tryz.prog 94 #[.agg #[.int .i64 t.kind, .string t.lead, .string t.text]] w fun e w' => e = .returned (.bool (nameB 1 t.kind t.text)) ∧ Below w.heap.size w w' := by
  go_enter Tryz.func94, Tryz.ntmps94
  go_wp2
  go_ret
  exact ⟨rfl, (Below.refl _ _).alloc (Nat.le_refl _) _⟩
set_option maxHeartbeats 400000 in
theorem lower_syn (t : Tok) (w : World) : Calls Tryz.prog 96 #[.agg #[.int .i64 t.kind, .string t.lead, .string t.text]] w fun e w' => e = .returned (.bool (nameB 2 t.kind t.text)) ∧ Below w.heap.size w w' := by
  go_enter Tryz.func96, Tryz.ntmps96
  go_wp2
  go_ret
  exact ⟨rfl, (Below.refl _ _).alloc (Nat.le_refl _) _⟩
set_option maxHeartbeats 400000 in
theorem number_syn (t : Tok) (w : World) : Calls Tryz.prog 134 #[.agg #[.int .i64 t.kind, .string t.lead, .string t.text]] w fun e w' => e = .returned (.bool (nameB 5 t.kind t.text)) ∧ Below w.heap.size w w' := by
  go_enter Tryz.func134, Tryz.ntmps134
  go_wp2
  go_ret
  exact ⟨rfl, (Below.refl _ _).alloc (Nat.le_refl _) _⟩
set_option maxHeartbeats 400000 in
theorem quoted_syn (t : Tok) (w : World) : Calls Tryz.prog 135 #[.agg #[.int .i64 t.kind, .string t.lead, .string t.text]] w fun e w' => e = .returned (.bool (nameB 6 t.kind t.text)) ∧ Below w.heap.size w w' := by
  go_enter Tryz.func135, Tryz.ntmps135
  go_wp2
  go_ret
  exact ⟨rfl, (Below.refl _ _).alloc (Nat.le_refl _) _⟩
set_option maxHeartbeats 400000 in
theorem reference_syn (t : Tok) (w : World) : Calls Tryz.prog 98 #[.agg #[.int .i64 t.kind, .string t.lead, .string t.text]] w fun e w' => e = .returned (.bool (nameB 3 t.kind t.text)) ∧ Below w.heap.size w w' := by
  cases h1 : (t.kind == 2)
  · cases h2 : (t.kind == 4)
    all_goals
      have HR := Lib.hid (show nameB 3 t.kind t.text = _ from by unfold nameB; simp only [h1, h2]; rfl)
      go_enter Tryz.func98, Tryz.ntmps98
      go_wp2
      go_ret
      exact ⟨by rw [HR.out]; rfl, (Below.refl _ _).alloc (Nat.le_refl _) _⟩
  · have HR := Lib.hid (show nameB 3 t.kind t.text = true from by unfold nameB; simp only [h1]; rfl)
    go_enter Tryz.func98, Tryz.ntmps98
    go_wp2
    go_ret
    exact ⟨by rw [HR.out]; rfl, (Below.refl _ _).alloc (Nat.le_refl _) _⟩
set_option maxHeartbeats 400000 in
theorem callee_syn (t : Tok) (w : World) : Calls Tryz.prog 136 #[.agg #[.int .i64 t.kind, .string t.lead, .string t.text]] w fun e w' => e = .returned (.bool (nameB 4 t.kind t.text)) ∧ Below w.heap.size w w' := by
  cases h1 : (t.kind == 1)
  · cases h2 : (t.kind == 3)
    all_goals
      have HR := Lib.hid (show nameB 4 t.kind t.text = _ from by unfold nameB; simp only [h1, h2]; rfl)
      go_enter Tryz.func136, Tryz.ntmps136
      go_wp2
      go_ret
      exact ⟨by rw [HR.out]; rfl, (Below.refl _ _).alloc (Nat.le_refl _) _⟩
  · have HR := Lib.hid (show nameB 4 t.kind t.text = true from by unfold nameB; simp only [h1]; rfl)
    go_enter Tryz.func136, Tryz.ntmps136
    go_wp2
    go_ret
    exact ⟨by rw [HR.out]; rfl, (Below.refl _ _).alloc (Nat.le_refl _) _⟩
set_option maxHeartbeats 400000 in
theorem operator_0 (t : Tok) (w : World) (h0 : (t.text.toList == [43]) = true) : Calls Tryz.prog 137 #[.agg #[.int .i64 t.kind, .string t.lead, .string t.text]] w fun e w' => e = .returned (.bool (opB t.text)) ∧ Below w.heap.size w w' := by
  have HR := Lib.hid (show opB t.text = true from by unfold opB; simp only [← is_list, h0]; rfl)
  go_enter Tryz.func137, Tryz.ntmps137
  go_wp2
  go_ret
  exact ⟨by rw [HR.out]; rfl, (Below.refl _ _).alloc (Nat.le_refl _) _⟩
set_option maxHeartbeats 400000 in
theorem operator_1 (t : Tok) (w : World) (h0 : (t.text.toList == [43]) = false) (h1 : (t.text.toList == [45]) = true) : Calls Tryz.prog 137 #[.agg #[.int .i64 t.kind, .string t.lead, .string t.text]] w fun e w' => e = .returned (.bool (opB t.text)) ∧ Below w.heap.size w w' := by
  have HR := Lib.hid (show opB t.text = true from by unfold opB; simp only [← is_list, h0, h1]; rfl)
  go_enter Tryz.func137, Tryz.ntmps137
  go_wp2
  go_ret
  exact ⟨by rw [HR.out]; rfl, (Below.refl _ _).alloc (Nat.le_refl _) _⟩
set_option maxHeartbeats 400000 in
theorem operator_2 (t : Tok) (w : World) (h0 : (t.text.toList == [43]) = false) (h1 : (t.text.toList == [45]) = false) (h2 : (t.text.toList == [42]) = true) : Calls Tryz.prog 137 #[.agg #[.int .i64 t.kind, .string t.lead, .string t.text]] w fun e w' => e = .returned (.bool (opB t.text)) ∧ Below w.heap.size w w' := by
  have HR := Lib.hid (show opB t.text = true from by unfold opB; simp only [← is_list, h0, h1, h2]; rfl)
  go_enter Tryz.func137, Tryz.ntmps137
  go_wp2
  go_ret
  exact ⟨by rw [HR.out]; rfl, (Below.refl _ _).alloc (Nat.le_refl _) _⟩
set_option maxHeartbeats 400000 in
theorem operator_3 (t : Tok) (w : World) (h0 : (t.text.toList == [43]) = false) (h1 : (t.text.toList == [45]) = false) (h2 : (t.text.toList == [42]) = false) (h3 : (t.text.toList == [60]) = true) : Calls Tryz.prog 137 #[.agg #[.int .i64 t.kind, .string t.lead, .string t.text]] w fun e w' => e = .returned (.bool (opB t.text)) ∧ Below w.heap.size w w' := by
  have HR := Lib.hid (show opB t.text = true from by unfold opB; simp only [← is_list, h0, h1, h2, h3]; rfl)
  go_enter Tryz.func137, Tryz.ntmps137
  go_wp2
  go_ret
  exact ⟨by rw [HR.out]; rfl, (Below.refl _ _).alloc (Nat.le_refl _) _⟩
set_option maxHeartbeats 400000 in
theorem operator_4 (t : Tok) (w : World) (h0 : (t.text.toList == [43]) = false) (h1 : (t.text.toList == [45]) = false) (h2 : (t.text.toList == [42]) = false) (h3 : (t.text.toList == [60]) = false) (h4 : (t.text.toList == [61, 61]) = true) : Calls Tryz.prog 137 #[.agg #[.int .i64 t.kind, .string t.lead, .string t.text]] w fun e w' => e = .returned (.bool (opB t.text)) ∧ Below w.heap.size w w' := by
  have HR := Lib.hid (show opB t.text = true from by unfold opB; simp only [← is_list, h0, h1, h2, h3, h4]; rfl)
  go_enter Tryz.func137, Tryz.ntmps137
  go_wp2
  go_ret
  exact ⟨by rw [HR.out]; rfl, (Below.refl _ _).alloc (Nat.le_refl _) _⟩
set_option maxHeartbeats 400000 in
theorem operator_5 (t : Tok) (w : World) (h0 : (t.text.toList == [43]) = false) (h1 : (t.text.toList == [45]) = false) (h2 : (t.text.toList == [42]) = false) (h3 : (t.text.toList == [60]) = false) (h4 : (t.text.toList == [61, 61]) = false) : Calls Tryz.prog 137 #[.agg #[.int .i64 t.kind, .string t.lead, .string t.text]] w fun e w' => e = .returned (.bool (opB t.text)) ∧ Below w.heap.size w w' := by
  have HR := Lib.hid (show opB t.text = false from by unfold opB; simp only [← is_list, h0, h1, h2, h3, h4]; rfl)
  go_enter Tryz.func137, Tryz.ntmps137
  go_wp2
  go_ret
  exact ⟨by rw [HR.out]; rfl, (Below.refl _ _).alloc (Nat.le_refl _) _⟩
theorem operator_syn (t : Tok) (w : World) : Calls Tryz.prog 137 #[.agg #[.int .i64 t.kind, .string t.lead, .string t.text]] w fun e w' => e = .returned (.bool (opB t.text)) ∧ Below w.heap.size w w' := by
  cases h0 : (t.text.toList == [43])
  case true => exact operator_0 t w h0
  cases h1 : (t.text.toList == [45])
  case true => exact operator_1 t w h0 h1
  cases h2 : (t.text.toList == [42])
  case true => exact operator_2 t w h0 h1 h2
  cases h3 : (t.text.toList == [60])
  case true => exact operator_3 t w h0 h1 h2 h3
  cases h4 : (t.text.toList == [61, 61])
  case true => exact operator_4 t w h0 h1 h2 h3 h4
  exact operator_5 t w h0 h1 h2 h3 h4
set_option maxHeartbeats 400000 in
theorem definitionKind_0 (t : Tok) (w : World) (h0 : (t.text.toList == [100, 101, 102]) = true) : Calls Tryz.prog 174 #[.agg #[.int .i64 t.kind, .string t.lead, .string t.text]] w fun e w' => e = .returned (.int .i64 (defKind t.text)) ∧ Below w.heap.size w w' := by
  have HR := Lib.hid (show defKind t.text = 2 from by unfold defKind; simp only [← is_list, h0]; rfl)
  go_enter Tryz.func174, Tryz.ntmps174
  go_wp2
  go_ret
  exact ⟨by rw [HR.out]; rfl, (Below.refl _ _).alloc (Nat.le_refl _) _⟩
set_option maxHeartbeats 400000 in
theorem definitionKind_1 (t : Tok) (w : World) (h0 : (t.text.toList == [100, 101, 102]) = false) (h1 : (t.text.toList == [116, 121, 112, 101]) = true) : Calls Tryz.prog 174 #[.agg #[.int .i64 t.kind, .string t.lead, .string t.text]] w fun e w' => e = .returned (.int .i64 (defKind t.text)) ∧ Below w.heap.size w w' := by
  have HR := Lib.hid (show defKind t.text = 3 from by unfold defKind; simp only [← is_list, h0, h1]; rfl)
  go_enter Tryz.func174, Tryz.ntmps174
  go_wp2
  go_ret
  exact ⟨by rw [HR.out]; rfl, (Below.refl _ _).alloc (Nat.le_refl _) _⟩
set_option maxHeartbeats 400000 in
theorem definitionKind_2 (t : Tok) (w : World) (h0 : (t.text.toList == [100, 101, 102]) = false) (h1 : (t.text.toList == [116, 121, 112, 101]) = false) : Calls Tryz.prog 174 #[.agg #[.int .i64 t.kind, .string t.lead, .string t.text]] w fun e w' => e = .returned (.int .i64 (defKind t.text)) ∧ Below w.heap.size w w' := by
  have HR := Lib.hid (show defKind t.text = 0 from by unfold defKind; simp only [← is_list, h0, h1]; rfl)
  go_enter Tryz.func174, Tryz.ntmps174
  go_wp2
  go_ret
  exact ⟨by rw [HR.out]; rfl, (Below.refl _ _).alloc (Nat.le_refl _) _⟩
theorem definitionKind_syn (t : Tok) (w : World) : Calls Tryz.prog 174 #[.agg #[.int .i64 t.kind, .string t.lead, .string t.text]] w fun e w' => e = .returned (.int .i64 (defKind t.text)) ∧ Below w.heap.size w w' := by
  cases h0 : (t.text.toList == [100, 101, 102])
  case true => exact definitionKind_0 t w h0
  cases h1 : (t.text.toList == [116, 121, 112, 101])
  case true => exact definitionKind_1 t w h0 h1
  exact definitionKind_2 t w h0 h1
end Go.Proofs.YtpdmklbfbpdneaaGreat
