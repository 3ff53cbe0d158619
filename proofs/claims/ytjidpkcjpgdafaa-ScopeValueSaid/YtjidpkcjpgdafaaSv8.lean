/- Part 8: The contracts of the tests of tokens, of sort.has, definitionKind, typeKind. -/
import Derived.Test.YtjidpkcjpgdafaaSv1
import Derived.Test.YtjidpkcjpgdafaaSv7
set_option maxRecDepth 100000
set_option maxHeartbeats 4000000
namespace Go.Proofs.Ytjidpkcjpgdafaa
open Go.RowKit
theorem Qan (x:ByteArray) (l:List UInt8):(x.toList == l) = is x l:=by rw [ByteArray.toList_eq];rfl
theorem upper_syn (t:Tok) (w:World):Calls Try.prog 42 #[.agg #[.int .i64 t.kind,.string t.lead,.string t.text]] w fun e w'=>e = .returned (.bool (Qbk 1 t.kind t.text)) ∧ Below w.heap.size w w':=by
 go_enter Try.func42,Try.ntmps42
 go_wp2
 go_ret
 exact ⟨rfl,(xC _ _).alloc (xA _) _⟩
theorem lower_syn (t:Tok) (w:World):Calls Try.prog 44 #[.agg #[.int .i64 t.kind,.string t.lead,.string t.text]] w fun e w'=>e = .returned (.bool (Qbk 2 t.kind t.text)) ∧ Below w.heap.size w w':=by
 go_enter Try.func44,Try.ntmps44
 go_wp2
 go_ret
 exact ⟨rfl,(xC _ _).alloc (xA _) _⟩
theorem number_syn (t:Tok) (w:World):Calls Try.prog 68 #[.agg #[.int .i64 t.kind,.string t.lead,.string t.text]] w fun e w'=>e = .returned (.bool (Qbk 5 t.kind t.text)) ∧ Below w.heap.size w w':=by
 go_enter Try.func68,Try.ntmps68
 go_wp2
 go_ret
 exact ⟨rfl,(xC _ _).alloc (xA _) _⟩
theorem quoted_syn (t:Tok) (w:World):Calls Try.prog 69 #[.agg #[.int .i64 t.kind,.string t.lead,.string t.text]] w fun e w'=>e = .returned (.bool (Qbk 6 t.kind t.text)) ∧ Below w.heap.size w w':=by
 go_enter Try.func69,Try.ntmps69
 go_wp2
 go_ret
 exact ⟨rfl,(xC _ _).alloc (xA _) _⟩
theorem Qdw (t:Tok) (w:World):Calls Try.prog 46 #[.agg #[.int .i64 t.kind,.string t.lead,.string t.text]] w fun e w'=>e = .returned (.bool (Qbk 3 t.kind t.text)) ∧ Below w.heap.size w w':=by
 cases h1:(t.kind == 2)
 ·cases h2:(t.kind == 4)
  all_goals
   have HR:=hQ (show Qbk 3 t.kind t.text = _ from by unfold Qbk;simp only [h1,h2];rfl)
   go_enter Try.func46,Try.ntmps46
   go_wp2
   go_ret
   exact ⟨by rw [HR.out];rfl,(xC _ _).alloc (xA _) _⟩
 ·have HR:=hQ (show Qbk 3 t.kind t.text = true from by unfold Qbk;simp only [h1];rfl)
  go_enter Try.func46,Try.ntmps46
  go_wp2
  go_ret
  exact ⟨by rw [HR.out];rfl,(xC _ _).alloc (xA _) _⟩
theorem callee_syn (t:Tok) (w:World):Calls Try.prog 70 #[.agg #[.int .i64 t.kind,.string t.lead,.string t.text]] w fun e w'=>e = .returned (.bool (Qbk 4 t.kind t.text)) ∧ Below w.heap.size w w':=by
 cases h1:(t.kind == 1)
 ·cases h2:(t.kind == 3)
  all_goals
   have HR:=hQ (show Qbk 4 t.kind t.text = _ from by unfold Qbk;simp only [h1,h2];rfl)
   go_enter Try.func70,Try.ntmps70
   go_wp2
   go_ret
   exact ⟨by rw [HR.out];rfl,(xC _ _).alloc (xA _) _⟩
 ·have HR:=hQ (show Qbk 4 t.kind t.text = true from by unfold Qbk;simp only [h1];rfl)
  go_enter Try.func70,Try.ntmps70
  go_wp2
  go_ret
  exact ⟨by rw [HR.out];rfl,(xC _ _).alloc (xA _) _⟩
theorem operator_0 (t:Tok) (w:World) (h0:(t.text.toList == [43]) = true):Calls Try.prog 62 #[.agg #[.int .i64 t.kind,.string t.lead,.string t.text]] w fun e w'=>e = .returned (.bool (opB t.text)) ∧ Below w.heap.size w w':=by
 have HR:=hQ (show opB t.text = true from by unfold opB;simp only [← Qan,h0];rfl)
 go_enter Try.func62,Try.ntmps62
 go_wp2
 go_ret
 exact ⟨by rw [HR.out];rfl,(xC _ _).alloc (xA _) _⟩
theorem operator_1 (t:Tok) (w:World) (h0:(t.text.toList == [43]) = false) (h1:(t.text.toList == [45]) = true):Calls Try.prog 62 #[.agg #[.int .i64 t.kind,.string t.lead,.string t.text]] w fun e w'=>e = .returned (.bool (opB t.text)) ∧ Below w.heap.size w w':=by
 have HR:=hQ (show opB t.text = true from by unfold opB;simp only [← Qan,h0,h1];rfl)
 go_enter Try.func62,Try.ntmps62
 go_wp2
 go_ret
 exact ⟨by rw [HR.out];rfl,(xC _ _).alloc (xA _) _⟩
theorem operator_2 (t:Tok) (w:World) (h0:(t.text.toList == [43]) = false) (h1:(t.text.toList == [45]) = false) (h2:(t.text.toList == [42]) = true):Calls Try.prog 62 #[.agg #[.int .i64 t.kind,.string t.lead,.string t.text]] w fun e w'=>e = .returned (.bool (opB t.text)) ∧ Below w.heap.size w w':=by
 have HR:=hQ (show opB t.text = true from by unfold opB;simp only [← Qan,h0,h1,h2];rfl)
 go_enter Try.func62,Try.ntmps62
 go_wp2
 go_ret
 exact ⟨by rw [HR.out];rfl,(xC _ _).alloc (xA _) _⟩
theorem operator_3 (t:Tok) (w:World) (h0:(t.text.toList == [43]) = false) (h1:(t.text.toList == [45]) = false) (h2:(t.text.toList == [42]) = false) (h3:(t.text.toList == [60]) = true):Calls Try.prog 62 #[.agg #[.int .i64 t.kind,.string t.lead,.string t.text]] w fun e w'=>e = .returned (.bool (opB t.text)) ∧ Below w.heap.size w w':=by
 have HR:=hQ (show opB t.text = true from by unfold opB;simp only [← Qan,h0,h1,h2,h3];rfl)
 go_enter Try.func62,Try.ntmps62
 go_wp2
 go_ret
 exact ⟨by rw [HR.out];rfl,(xC _ _).alloc (xA _) _⟩
theorem operator_4 (t:Tok) (w:World) (h0:(t.text.toList == [43]) = false) (h1:(t.text.toList == [45]) = false) (h2:(t.text.toList == [42]) = false) (h3:(t.text.toList == [60]) = false) (h4:(t.text.toList == [61,61]) = true):Calls Try.prog 62 #[.agg #[.int .i64 t.kind,.string t.lead,.string t.text]] w fun e w'=>e = .returned (.bool (opB t.text)) ∧ Below w.heap.size w w':=by
 have HR:=hQ (show opB t.text = true from by unfold opB;simp only [← Qan,h0,h1,h2,h3,h4];rfl)
 go_enter Try.func62,Try.ntmps62
 go_wp2
 go_ret
 exact ⟨by rw [HR.out];rfl,(xC _ _).alloc (xA _) _⟩
theorem operator_5 (t:Tok) (w:World) (h0:(t.text.toList == [43]) = false) (h1:(t.text.toList == [45]) = false) (h2:(t.text.toList == [42]) = false) (h3:(t.text.toList == [60]) = false) (h4:(t.text.toList == [61,61]) = false):Calls Try.prog 62 #[.agg #[.int .i64 t.kind,.string t.lead,.string t.text]] w fun e w'=>e = .returned (.bool (opB t.text)) ∧ Below w.heap.size w w':=by
 have HR:=hQ (show opB t.text = false from by unfold opB;simp only [← Qan,h0,h1,h2,h3,h4];rfl)
 go_enter Try.func62,Try.ntmps62
 go_wp2
 go_ret
 exact ⟨by rw [HR.out];rfl,(xC _ _).alloc (xA _) _⟩
theorem Qc6 (t:Tok) (w:World):Calls Try.prog 62 #[.agg #[.int .i64 t.kind,.string t.lead,.string t.text]] w fun e w'=>e = .returned (.bool (opB t.text)) ∧ Below w.heap.size w w':=by
 cases h0:(t.text.toList == [43])
 case true=>exact operator_0 t w h0
 cases h1:(t.text.toList == [45])
 case true=>exact operator_1 t w h0 h1
 cases h2:(t.text.toList == [42])
 case true=>exact operator_2 t w h0 h1 h2
 cases h3:(t.text.toList == [60])
 case true=>exact operator_3 t w h0 h1 h2 h3
 cases h4:(t.text.toList == [61,61])
 case true=>exact operator_4 t w h0 h1 h2 h3 h4
 exact operator_5 t w h0 h1 h2 h3 h4
theorem definitionKind_0 (t:Tok) (w:World) (h0:(t.text.toList == [100,101,102]) = true):Calls Try.prog 75 #[.agg #[.int .i64 t.kind,.string t.lead,.string t.text]] w fun e w'=>e = .returned (.int .i64 (Qcd t.text)) ∧ Below w.heap.size w w':=by
 have HR:=hQ (show Qcd t.text = 2 from by unfold Qcd;simp only [← Qan,h0];rfl)
 go_enter Try.func75,Try.ntmps75
 go_wp2
 go_ret
 exact ⟨by rw [HR.out];rfl,(xC _ _).alloc (xA _) _⟩
theorem definitionKind_1 (t:Tok) (w:World) (h0:(t.text.toList == [100,101,102]) = false) (h1:(t.text.toList == [116,121,112,101]) = true):Calls Try.prog 75 #[.agg #[.int .i64 t.kind,.string t.lead,.string t.text]] w fun e w'=>e = .returned (.int .i64 (Qcd t.text)) ∧ Below w.heap.size w w':=by
 have HR:=hQ (show Qcd t.text = 3 from by unfold Qcd;simp only [← Qan,h0,h1];rfl)
 go_enter Try.func75,Try.ntmps75
 go_wp2
 go_ret
 exact ⟨by rw [HR.out];rfl,(xC _ _).alloc (xA _) _⟩
theorem definitionKind_2 (t:Tok) (w:World) (h0:(t.text.toList == [100,101,102]) = false) (h1:(t.text.toList == [116,121,112,101]) = false):Calls Try.prog 75 #[.agg #[.int .i64 t.kind,.string t.lead,.string t.text]] w fun e w'=>e = .returned (.int .i64 (Qcd t.text)) ∧ Below w.heap.size w w':=by
 have HR:=hQ (show Qcd t.text = 0 from by unfold Qcd;simp only [← Qan,h0,h1];rfl)
 go_enter Try.func75,Try.ntmps75
 go_wp2
 go_ret
 exact ⟨by rw [HR.out];rfl,(xC _ _).alloc (xA _) _⟩
theorem definitionKind_syn (t:Tok) (w:World):Calls Try.prog 75 #[.agg #[.int .i64 t.kind,.string t.lead,.string t.text]] w fun e w'=>e = .returned (.int .i64 (Qcd t.text)) ∧ Below w.heap.size w w':=by
 cases h0:(t.text.toList == [100,101,102])
 case true=>exact definitionKind_0 t w h0
 cases h1:(t.text.toList == [116,121,112,101])
 case true=>exact definitionKind_1 t w h0 h1
 exact definitionKind_2 t w h0 h1
end Go.Proofs.Ytjidpkcjpgdafaa
