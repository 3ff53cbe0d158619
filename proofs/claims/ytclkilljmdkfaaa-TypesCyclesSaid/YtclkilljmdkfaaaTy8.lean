/- Part 8: The contracts of the tests of tokens, of sort.has, definitionKind, typeKind. -/
import Derived.Test.YtclkilljmdkfaaaTy1
import Derived.Test.YtclkilljmdkfaaaTy7
set_option maxRecDepth 100000
set_option maxHeartbeats 4000000
namespace Go.Proofs.Ytclkilljmdkfaaa
open Go.RowKit
theorem Qav (x:ByteArray) (l:List UInt8):(x.toList == l) = is x l:=by rw [ByteArray.toList_eq];rfl
theorem upper_syn (t:Tok) (w:World):Calls Try.prog 71 #[.agg #[.int .i64 t.kind,.string t.lead,.string t.text]] w fun e w'=>e = .returned (.bool (Qbw 1 t.kind t.text)) ∧ Below w.heap.size w w':=by
 go_enter Try.func71,Try.ntmps71
 go_wp2
 go_ret
 exact ⟨rfl,(xC _ _).alloc (xA _) _⟩
theorem lower_syn (t:Tok) (w:World):Calls Try.prog 73 #[.agg #[.int .i64 t.kind,.string t.lead,.string t.text]] w fun e w'=>e = .returned (.bool (Qbw 2 t.kind t.text)) ∧ Below w.heap.size w w':=by
 go_enter Try.func73,Try.ntmps73
 go_wp2
 go_ret
 exact ⟨rfl,(xC _ _).alloc (xA _) _⟩
theorem number_syn (t:Tok) (w:World):Calls Try.prog 93 #[.agg #[.int .i64 t.kind,.string t.lead,.string t.text]] w fun e w'=>e = .returned (.bool (Qbw 5 t.kind t.text)) ∧ Below w.heap.size w w':=by
 go_enter Try.func93,Try.ntmps93
 go_wp2
 go_ret
 exact ⟨rfl,(xC _ _).alloc (xA _) _⟩
theorem quoted_syn (t:Tok) (w:World):Calls Try.prog 94 #[.agg #[.int .i64 t.kind,.string t.lead,.string t.text]] w fun e w'=>e = .returned (.bool (Qbw 6 t.kind t.text)) ∧ Below w.heap.size w w':=by
 go_enter Try.func94,Try.ntmps94
 go_wp2
 go_ret
 exact ⟨rfl,(xC _ _).alloc (xA _) _⟩
theorem Qfd (t:Tok) (w:World):Calls Try.prog 75 #[.agg #[.int .i64 t.kind,.string t.lead,.string t.text]] w fun e w'=>e = .returned (.bool (Qbw 3 t.kind t.text)) ∧ Below w.heap.size w w':=by
 cases h1:(t.kind == 2)
 ·cases h2:(t.kind == 4)
  all_goals
   have HR:=hQ (show Qbw 3 t.kind t.text = _ from by unfold Qbw;simp only [h1,h2];rfl)
   go_enter Try.func75,Try.ntmps75
   go_wp2
   go_ret
   exact ⟨by rw [HR.out];rfl,(xC _ _).alloc (xA _) _⟩
 ·have HR:=hQ (show Qbw 3 t.kind t.text = true from by unfold Qbw;simp only [h1];rfl)
  go_enter Try.func75,Try.ntmps75
  go_wp2
  go_ret
  exact ⟨by rw [HR.out];rfl,(xC _ _).alloc (xA _) _⟩
theorem callee_syn (t:Tok) (w:World):Calls Try.prog 95 #[.agg #[.int .i64 t.kind,.string t.lead,.string t.text]] w fun e w'=>e = .returned (.bool (Qbw 4 t.kind t.text)) ∧ Below w.heap.size w w':=by
 cases h1:(t.kind == 1)
 ·cases h2:(t.kind == 3)
  all_goals
   have HR:=hQ (show Qbw 4 t.kind t.text = _ from by unfold Qbw;simp only [h1,h2];rfl)
   go_enter Try.func95,Try.ntmps95
   go_wp2
   go_ret
   exact ⟨by rw [HR.out];rfl,(xC _ _).alloc (xA _) _⟩
 ·have HR:=hQ (show Qbw 4 t.kind t.text = true from by unfold Qbw;simp only [h1];rfl)
  go_enter Try.func95,Try.ntmps95
  go_wp2
  go_ret
  exact ⟨by rw [HR.out];rfl,(xC _ _).alloc (xA _) _⟩
theorem operator_0 (t:Tok) (w:World) (h0:(t.text.toList == [43]) = true):Calls Try.prog 81 #[.agg #[.int .i64 t.kind,.string t.lead,.string t.text]] w fun e w'=>e = .returned (.bool (opB t.text)) ∧ Below w.heap.size w w':=by
 have HR:=hQ (show opB t.text = true from by unfold opB;simp only [← Qav,h0];rfl)
 go_enter Try.func81,Try.ntmps81
 go_wp2
 go_ret
 exact ⟨by rw [HR.out];rfl,(xC _ _).alloc (xA _) _⟩
theorem operator_1 (t:Tok) (w:World) (h0:(t.text.toList == [43]) = false) (h1:(t.text.toList == [45]) = true):Calls Try.prog 81 #[.agg #[.int .i64 t.kind,.string t.lead,.string t.text]] w fun e w'=>e = .returned (.bool (opB t.text)) ∧ Below w.heap.size w w':=by
 have HR:=hQ (show opB t.text = true from by unfold opB;simp only [← Qav,h0,h1];rfl)
 go_enter Try.func81,Try.ntmps81
 go_wp2
 go_ret
 exact ⟨by rw [HR.out];rfl,(xC _ _).alloc (xA _) _⟩
theorem operator_2 (t:Tok) (w:World) (h0:(t.text.toList == [43]) = false) (h1:(t.text.toList == [45]) = false) (h2:(t.text.toList == [42]) = true):Calls Try.prog 81 #[.agg #[.int .i64 t.kind,.string t.lead,.string t.text]] w fun e w'=>e = .returned (.bool (opB t.text)) ∧ Below w.heap.size w w':=by
 have HR:=hQ (show opB t.text = true from by unfold opB;simp only [← Qav,h0,h1,h2];rfl)
 go_enter Try.func81,Try.ntmps81
 go_wp2
 go_ret
 exact ⟨by rw [HR.out];rfl,(xC _ _).alloc (xA _) _⟩
theorem operator_3 (t:Tok) (w:World) (h0:(t.text.toList == [43]) = false) (h1:(t.text.toList == [45]) = false) (h2:(t.text.toList == [42]) = false) (h3:(t.text.toList == [60]) = true):Calls Try.prog 81 #[.agg #[.int .i64 t.kind,.string t.lead,.string t.text]] w fun e w'=>e = .returned (.bool (opB t.text)) ∧ Below w.heap.size w w':=by
 have HR:=hQ (show opB t.text = true from by unfold opB;simp only [← Qav,h0,h1,h2,h3];rfl)
 go_enter Try.func81,Try.ntmps81
 go_wp2
 go_ret
 exact ⟨by rw [HR.out];rfl,(xC _ _).alloc (xA _) _⟩
theorem operator_4 (t:Tok) (w:World) (h0:(t.text.toList == [43]) = false) (h1:(t.text.toList == [45]) = false) (h2:(t.text.toList == [42]) = false) (h3:(t.text.toList == [60]) = false) (h4:(t.text.toList == [61,61]) = true):Calls Try.prog 81 #[.agg #[.int .i64 t.kind,.string t.lead,.string t.text]] w fun e w'=>e = .returned (.bool (opB t.text)) ∧ Below w.heap.size w w':=by
 have HR:=hQ (show opB t.text = true from by unfold opB;simp only [← Qav,h0,h1,h2,h3,h4];rfl)
 go_enter Try.func81,Try.ntmps81
 go_wp2
 go_ret
 exact ⟨by rw [HR.out];rfl,(xC _ _).alloc (xA _) _⟩
theorem operator_5 (t:Tok) (w:World) (h0:(t.text.toList == [43]) = false) (h1:(t.text.toList == [45]) = false) (h2:(t.text.toList == [42]) = false) (h3:(t.text.toList == [60]) = false) (h4:(t.text.toList == [61,61]) = false):Calls Try.prog 81 #[.agg #[.int .i64 t.kind,.string t.lead,.string t.text]] w fun e w'=>e = .returned (.bool (opB t.text)) ∧ Below w.heap.size w w':=by
 have HR:=hQ (show opB t.text = false from by unfold opB;simp only [← Qav,h0,h1,h2,h3,h4];rfl)
 go_enter Try.func81,Try.ntmps81
 go_wp2
 go_ret
 exact ⟨by rw [HR.out];rfl,(xC _ _).alloc (xA _) _⟩
theorem Qeb (t:Tok) (w:World):Calls Try.prog 81 #[.agg #[.int .i64 t.kind,.string t.lead,.string t.text]] w fun e w'=>e = .returned (.bool (opB t.text)) ∧ Below w.heap.size w w':=by
 cases h0:(t.text.toList == [43])
 case true=>exact operator_0 t w h0
 cases h1:(t.text.toList == [45])
 case true=>exact operator_1 t w h0 h1
 cases h2:(t.text.toList == [42])
 case true=>exact operator_2 t w h0 h1 h2
 cases h3:(t.text.toList == [60])
 case true=>exact operator_3 t w h0 h1 h2 h3
 cases h4:(t.text.toList == [61,61])
 case true=>exact operator_4 t w h0 h1 h2 h3 h4
 exact operator_5 t w h0 h1 h2 h3 h4
theorem definitionKind_0 (t:Tok) (w:World) (h0:(t.text.toList == [100,101,102]) = true):Calls Try.prog 96 #[.agg #[.int .i64 t.kind,.string t.lead,.string t.text]] w fun e w'=>e = .returned (.int .i64 (Qc8 t.text)) ∧ Below w.heap.size w w':=by
 have HR:=hQ (show Qc8 t.text = 2 from by unfold Qc8;simp only [← Qav,h0];rfl)
 go_enter Try.func96,Try.ntmps96
 go_wp2
 go_ret
 exact ⟨by rw [HR.out];rfl,(xC _ _).alloc (xA _) _⟩
theorem definitionKind_1 (t:Tok) (w:World) (h0:(t.text.toList == [100,101,102]) = false) (h1:(t.text.toList == [116,121,112,101]) = true):Calls Try.prog 96 #[.agg #[.int .i64 t.kind,.string t.lead,.string t.text]] w fun e w'=>e = .returned (.int .i64 (Qc8 t.text)) ∧ Below w.heap.size w w':=by
 have HR:=hQ (show Qc8 t.text = 3 from by unfold Qc8;simp only [← Qav,h0,h1];rfl)
 go_enter Try.func96,Try.ntmps96
 go_wp2
 go_ret
 exact ⟨by rw [HR.out];rfl,(xC _ _).alloc (xA _) _⟩
theorem definitionKind_2 (t:Tok) (w:World) (h0:(t.text.toList == [100,101,102]) = false) (h1:(t.text.toList == [116,121,112,101]) = false):Calls Try.prog 96 #[.agg #[.int .i64 t.kind,.string t.lead,.string t.text]] w fun e w'=>e = .returned (.int .i64 (Qc8 t.text)) ∧ Below w.heap.size w w':=by
 have HR:=hQ (show Qc8 t.text = 0 from by unfold Qc8;simp only [← Qav,h0,h1];rfl)
 go_enter Try.func96,Try.ntmps96
 go_wp2
 go_ret
 exact ⟨by rw [HR.out];rfl,(xC _ _).alloc (xA _) _⟩
theorem definitionKind_syn (t:Tok) (w:World):Calls Try.prog 96 #[.agg #[.int .i64 t.kind,.string t.lead,.string t.text]] w fun e w'=>e = .returned (.int .i64 (Qc8 t.text)) ∧ Below w.heap.size w w':=by
 cases h0:(t.text.toList == [100,101,102])
 case true=>exact definitionKind_0 t w h0
 cases h1:(t.text.toList == [116,121,112,101])
 case true=>exact definitionKind_1 t w h0 h1
 exact definitionKind_2 t w h0 h1
end Go.Proofs.Ytclkilljmdkfaaa
