/- Part 6: The contracts of the tests of tokens, of sort.has, definitionKind, typeKind. The contract of fits. -/
import Derived.Test.YtjidpkcjpgdafaaGreatSc1
import Derived.Test.YtjidpkcjpgdafaaGreatSc5
import Derived.Laws.EntriesVeiled
set_option maxRecDepth 100000
set_option maxHeartbeats 4000000
namespace Go.Proofs.YtjidpkcjpgdafaaGreat
open Go.RowKit
theorem Qa9 (x:ByteArray) (l:List UInt8):(x.toList == l) = is x l:=by rw [ByteArray.toList_eq];rfl
theorem upper_syn (t:Tok) (w:World):Calls Tryz.prog 174 #[.agg #[.int .i64 t.kind,.string t.lead,.string t.text]] w fun e w'=>e = .returned (.bool (Qbu 1 t.kind t.text)) ∧ Below w.heap.size w w':=by
 go_enter Tryz.func174,Tryz.ntmps174
 go_wp2
 go_ret
 exact ⟨rfl,(xC _ _).alloc (xA _) _⟩
theorem lower_syn (t:Tok) (w:World):Calls Tryz.prog 176 #[.agg #[.int .i64 t.kind,.string t.lead,.string t.text]] w fun e w'=>e = .returned (.bool (Qbu 2 t.kind t.text)) ∧ Below w.heap.size w w':=by
 go_enter Tryz.func176,Tryz.ntmps176
 go_wp2
 go_ret
 exact ⟨rfl,(xC _ _).alloc (xA _) _⟩
theorem number_syn (t:Tok) (w:World):Calls Tryz.prog 221 #[.agg #[.int .i64 t.kind,.string t.lead,.string t.text]] w fun e w'=>e = .returned (.bool (Qbu 5 t.kind t.text)) ∧ Below w.heap.size w w':=by
 go_enter Tryz.func221,Tryz.ntmps221
 go_wp2
 go_ret
 exact ⟨rfl,(xC _ _).alloc (xA _) _⟩
theorem quoted_syn (t:Tok) (w:World):Calls Tryz.prog 222 #[.agg #[.int .i64 t.kind,.string t.lead,.string t.text]] w fun e w'=>e = .returned (.bool (Qbu 6 t.kind t.text)) ∧ Below w.heap.size w w':=by
 go_enter Tryz.func222,Tryz.ntmps222
 go_wp2
 go_ret
 exact ⟨rfl,(xC _ _).alloc (xA _) _⟩
theorem Qg6 (t:Tok) (w:World):Calls Tryz.prog 178 #[.agg #[.int .i64 t.kind,.string t.lead,.string t.text]] w fun e w'=>e = .returned (.bool (Qbu 3 t.kind t.text)) ∧ Below w.heap.size w w':=by
 cases h1:(t.kind == 2)
 ·cases h2:(t.kind == 4)
  all_goals
   have HR:=hQ (show Qbu 3 t.kind t.text = _ from by unfold Qbu;simp only [h1,h2];rfl)
   go_enter Tryz.func178,Tryz.ntmps178
   go_wp2
   go_ret
   exact ⟨by rw [HR.out];rfl,(xC _ _).alloc (xA _) _⟩
 ·have HR:=hQ (show Qbu 3 t.kind t.text = true from by unfold Qbu;simp only [h1];rfl)
  go_enter Tryz.func178,Tryz.ntmps178
  go_wp2
  go_ret
  exact ⟨by rw [HR.out];rfl,(xC _ _).alloc (xA _) _⟩
theorem callee_syn (t:Tok) (w:World):Calls Tryz.prog 223 #[.agg #[.int .i64 t.kind,.string t.lead,.string t.text]] w fun e w'=>e = .returned (.bool (Qbu 4 t.kind t.text)) ∧ Below w.heap.size w w':=by
 cases h1:(t.kind == 1)
 ·cases h2:(t.kind == 3)
  all_goals
   have HR:=hQ (show Qbu 4 t.kind t.text = _ from by unfold Qbu;simp only [h1,h2];rfl)
   go_enter Tryz.func223,Tryz.ntmps223
   go_wp2
   go_ret
   exact ⟨by rw [HR.out];rfl,(xC _ _).alloc (xA _) _⟩
 ·have HR:=hQ (show Qbu 4 t.kind t.text = true from by unfold Qbu;simp only [h1];rfl)
  go_enter Tryz.func223,Tryz.ntmps223
  go_wp2
  go_ret
  exact ⟨by rw [HR.out];rfl,(xC _ _).alloc (xA _) _⟩
theorem operator_0 (t:Tok) (w:World) (h0:(t.text.toList == [43]) = true):Calls Tryz.prog 184 #[.agg #[.int .i64 t.kind,.string t.lead,.string t.text]] w fun e w'=>e = .returned (.bool (opB t.text)) ∧ Below w.heap.size w w':=by
 have HR:=hQ (show opB t.text = true from by unfold opB;simp only [← Qa9,h0];rfl)
 go_enter Tryz.func184,Tryz.ntmps184
 go_wp2
 go_ret
 exact ⟨by rw [HR.out];rfl,(xC _ _).alloc (xA _) _⟩
theorem operator_1 (t:Tok) (w:World) (h0:(t.text.toList == [43]) = false) (h1:(t.text.toList == [45]) = true):Calls Tryz.prog 184 #[.agg #[.int .i64 t.kind,.string t.lead,.string t.text]] w fun e w'=>e = .returned (.bool (opB t.text)) ∧ Below w.heap.size w w':=by
 have HR:=hQ (show opB t.text = true from by unfold opB;simp only [← Qa9,h0,h1];rfl)
 go_enter Tryz.func184,Tryz.ntmps184
 go_wp2
 go_ret
 exact ⟨by rw [HR.out];rfl,(xC _ _).alloc (xA _) _⟩
theorem operator_2 (t:Tok) (w:World) (h0:(t.text.toList == [43]) = false) (h1:(t.text.toList == [45]) = false) (h2:(t.text.toList == [42]) = true):Calls Tryz.prog 184 #[.agg #[.int .i64 t.kind,.string t.lead,.string t.text]] w fun e w'=>e = .returned (.bool (opB t.text)) ∧ Below w.heap.size w w':=by
 have HR:=hQ (show opB t.text = true from by unfold opB;simp only [← Qa9,h0,h1,h2];rfl)
 go_enter Tryz.func184,Tryz.ntmps184
 go_wp2
 go_ret
 exact ⟨by rw [HR.out];rfl,(xC _ _).alloc (xA _) _⟩
theorem operator_3 (t:Tok) (w:World) (h0:(t.text.toList == [43]) = false) (h1:(t.text.toList == [45]) = false) (h2:(t.text.toList == [42]) = false) (h3:(t.text.toList == [60]) = true):Calls Tryz.prog 184 #[.agg #[.int .i64 t.kind,.string t.lead,.string t.text]] w fun e w'=>e = .returned (.bool (opB t.text)) ∧ Below w.heap.size w w':=by
 have HR:=hQ (show opB t.text = true from by unfold opB;simp only [← Qa9,h0,h1,h2,h3];rfl)
 go_enter Tryz.func184,Tryz.ntmps184
 go_wp2
 go_ret
 exact ⟨by rw [HR.out];rfl,(xC _ _).alloc (xA _) _⟩
theorem operator_4 (t:Tok) (w:World) (h0:(t.text.toList == [43]) = false) (h1:(t.text.toList == [45]) = false) (h2:(t.text.toList == [42]) = false) (h3:(t.text.toList == [60]) = false) (h4:(t.text.toList == [61,61]) = true):Calls Tryz.prog 184 #[.agg #[.int .i64 t.kind,.string t.lead,.string t.text]] w fun e w'=>e = .returned (.bool (opB t.text)) ∧ Below w.heap.size w w':=by
 have HR:=hQ (show opB t.text = true from by unfold opB;simp only [← Qa9,h0,h1,h2,h3,h4];rfl)
 go_enter Tryz.func184,Tryz.ntmps184
 go_wp2
 go_ret
 exact ⟨by rw [HR.out];rfl,(xC _ _).alloc (xA _) _⟩
theorem operator_5 (t:Tok) (w:World) (h0:(t.text.toList == [43]) = false) (h1:(t.text.toList == [45]) = false) (h2:(t.text.toList == [42]) = false) (h3:(t.text.toList == [60]) = false) (h4:(t.text.toList == [61,61]) = false):Calls Tryz.prog 184 #[.agg #[.int .i64 t.kind,.string t.lead,.string t.text]] w fun e w'=>e = .returned (.bool (opB t.text)) ∧ Below w.heap.size w w':=by
 have HR:=hQ (show opB t.text = false from by unfold opB;simp only [← Qa9,h0,h1,h2,h3,h4];rfl)
 go_enter Tryz.func184,Tryz.ntmps184
 go_wp2
 go_ret
 exact ⟨by rw [HR.out];rfl,(xC _ _).alloc (xA _) _⟩
theorem Qgc (t:Tok) (w:World):Calls Tryz.prog 184 #[.agg #[.int .i64 t.kind,.string t.lead,.string t.text]] w fun e w'=>e = .returned (.bool (opB t.text)) ∧ Below w.heap.size w w':=by
 cases h0:(t.text.toList == [43])
 case true=>exact operator_0 t w h0
 cases h1:(t.text.toList == [45])
 case true=>exact operator_1 t w h0 h1
 cases h2:(t.text.toList == [42])
 case true=>exact operator_2 t w h0 h1 h2
 cases h3:(t.text.toList == [60])
 case true=>exact operator_3 t w h0 h1 h2 h3
 cases h4:(t.text.toList == [61,61])
 case true=>exact operator_4 t w h0 h1 h2 h3 h4
 exact operator_5 t w h0 h1 h2 h3 h4
theorem definitionKind_0 (t:Tok) (w:World) (h0:(t.text.toList == [100,101,102]) = true):Calls Tryz.prog 224 #[.agg #[.int .i64 t.kind,.string t.lead,.string t.text]] w fun e w'=>e = .returned (.int .i64 (Qez t.text)) ∧ Below w.heap.size w w':=by
 have HR:=hQ (show Qez t.text = 2 from by unfold Qez;simp only [← Qa9,h0];rfl)
 go_enter Tryz.func224,Tryz.ntmps224
 go_wp2
 go_ret
 exact ⟨by rw [HR.out];rfl,(xC _ _).alloc (xA _) _⟩
theorem definitionKind_1 (t:Tok) (w:World) (h0:(t.text.toList == [100,101,102]) = false) (h1:(t.text.toList == [116,121,112,101]) = true):Calls Tryz.prog 224 #[.agg #[.int .i64 t.kind,.string t.lead,.string t.text]] w fun e w'=>e = .returned (.int .i64 (Qez t.text)) ∧ Below w.heap.size w w':=by
 have HR:=hQ (show Qez t.text = 3 from by unfold Qez;simp only [← Qa9,h0,h1];rfl)
 go_enter Tryz.func224,Tryz.ntmps224
 go_wp2
 go_ret
 exact ⟨by rw [HR.out];rfl,(xC _ _).alloc (xA _) _⟩
theorem definitionKind_2 (t:Tok) (w:World) (h0:(t.text.toList == [100,101,102]) = false) (h1:(t.text.toList == [116,121,112,101]) = false):Calls Tryz.prog 224 #[.agg #[.int .i64 t.kind,.string t.lead,.string t.text]] w fun e w'=>e = .returned (.int .i64 (Qez t.text)) ∧ Below w.heap.size w w':=by
 have HR:=hQ (show Qez t.text = 0 from by unfold Qez;simp only [← Qa9,h0,h1];rfl)
 go_enter Tryz.func224,Tryz.ntmps224
 go_wp2
 go_ret
 exact ⟨by rw [HR.out];rfl,(xC _ _).alloc (xA _) _⟩
theorem definitionKind_syn (t:Tok) (w:World):Calls Tryz.prog 224 #[.agg #[.int .i64 t.kind,.string t.lead,.string t.text]] w fun e w'=>e = .returned (.int .i64 (Qez t.text)) ∧ Below w.heap.size w w':=by
 cases h0:(t.text.toList == [100,101,102])
 case true=>exact definitionKind_0 t w h0
 cases h1:(t.text.toList == [116,121,112,101])
 case true=>exact definitionKind_1 t w h0 h1
 exact definitionKind_2 t w h0 h1
theorem Qgl (f:FuncId) (w:World):(binOp .neq 173 (.func (.func f) #[] #[]) .nilFunc).run Tryz.prog w = .ok (.bool true) w:=by kernel_rfl
theorem fn_nil (w:World):(binOp .neq 173 .nilFunc .nilFunc).run Tryz.prog w = .ok (.bool false) w:=by kernel_rfl
theorem fits_0 (s:ByteArray) (k l m:Int) (se co:Bool) (t:Tok) (w:World):Calls Tryz.prog 185 #[.agg #[.string s,.nilFunc,.int .i64 k,.int .i64 l,.int .i64 m,.bool se,.bool co],.agg #[.int .i64 t.kind,.string t.lead,.string t.text]] w fun e w'=>e = .returned (.bool (Qey ⟨s,0,k,l,m,se,co⟩ t)) ∧ Below w.heap.size w w':=by
 have HR:=hQ (show Qey ⟨s,0,k,l,m,se,co⟩ t = (s.toList == t.text.toList) from by unfold Qey;rw [if_pos rfl];unfold is;rw [ByteArray.toList_eq,ByteArray.toList_eq,Bool.eq_iff_iff];simp only [beq_iff_eq];exact eq_comm)
 have hn:=fn_nil
 go_enter Tryz.func185,Tryz.ntmps185
 go_wp2
 go_ret
 exact ⟨by rw [HR.out];rfl,((xC _ _).alloc (xA _) _).alloc (by simp) _⟩
theorem fits_1 (s:ByteArray) (k l m:Int) (se co:Bool) (t:Tok) (w:World):Calls Tryz.prog 185 #[.agg #[.string s,.func (.func 174) #[] #[],.int .i64 k,.int .i64 l,.int .i64 m,.bool se,.bool co],.agg #[.int .i64 t.kind,.string t.lead,.string t.text]] w fun e w'=>e = .returned (.bool (Qey ⟨s,1,k,l,m,se,co⟩ t)) ∧ Below w.heap.size w w':=by
 have HR:=hQ (show Qey ⟨s,1,k,l,m,se,co⟩ t = Qbu 1 t.kind t.text from by unfold Qey;rw [if_neg (fun e:(1:Nat) = 0=>absurd e (by decide))])
 have hn:=Qgl
 go_enter Tryz.func185,Tryz.ntmps185
 go_wp2_with (go_at_call 174;refine (upper_syn t _).mono ?_;rintro e w1 ⟨rfl,hb⟩;have HB:=hQ hb;clear hb)
 go_ret
 exact ⟨by rw [HR.out];rfl,(((xC _ _).alloc (xA _) _).alloc (by simp) _).trans (HB.out.mono (by simp;omega))⟩
theorem fits_2 (s:ByteArray) (k l m:Int) (se co:Bool) (t:Tok) (w:World):Calls Tryz.prog 185 #[.agg #[.string s,.func (.func 176) #[] #[],.int .i64 k,.int .i64 l,.int .i64 m,.bool se,.bool co],.agg #[.int .i64 t.kind,.string t.lead,.string t.text]] w fun e w'=>e = .returned (.bool (Qey ⟨s,2,k,l,m,se,co⟩ t)) ∧ Below w.heap.size w w':=by
 have HR:=hQ (show Qey ⟨s,2,k,l,m,se,co⟩ t = Qbu 2 t.kind t.text from by unfold Qey;rw [if_neg (fun e:(2:Nat) = 0=>absurd e (by decide))])
 have hn:=Qgl
 go_enter Tryz.func185,Tryz.ntmps185
 go_wp2_with (go_at_call 176;refine (lower_syn t _).mono ?_;rintro e w1 ⟨rfl,hb⟩;have HB:=hQ hb;clear hb)
 go_ret
 exact ⟨by rw [HR.out];rfl,(((xC _ _).alloc (xA _) _).alloc (by simp) _).trans (HB.out.mono (by simp;omega))⟩
theorem fits_3 (s:ByteArray) (k l m:Int) (se co:Bool) (t:Tok) (w:World):Calls Tryz.prog 185 #[.agg #[.string s,.func (.func 178) #[] #[],.int .i64 k,.int .i64 l,.int .i64 m,.bool se,.bool co],.agg #[.int .i64 t.kind,.string t.lead,.string t.text]] w fun e w'=>e = .returned (.bool (Qey ⟨s,3,k,l,m,se,co⟩ t)) ∧ Below w.heap.size w w':=by
 have HR:=hQ (show Qey ⟨s,3,k,l,m,se,co⟩ t = Qbu 3 t.kind t.text from by unfold Qey;rw [if_neg (fun e:(3:Nat) = 0=>absurd e (by decide))])
 have hn:=Qgl
 go_enter Tryz.func185,Tryz.ntmps185
 go_wp2_with (go_at_call 178;refine (Qg6 t _).mono ?_;rintro e w1 ⟨rfl,hb⟩;have HB:=hQ hb;clear hb)
 go_ret
 exact ⟨by rw [HR.out];rfl,(((xC _ _).alloc (xA _) _).alloc (by simp) _).trans (HB.out.mono (by simp;omega))⟩
theorem fits_4 (s:ByteArray) (k l m:Int) (se co:Bool) (t:Tok) (w:World):Calls Tryz.prog 185 #[.agg #[.string s,.func (.func 223) #[] #[],.int .i64 k,.int .i64 l,.int .i64 m,.bool se,.bool co],.agg #[.int .i64 t.kind,.string t.lead,.string t.text]] w fun e w'=>e = .returned (.bool (Qey ⟨s,4,k,l,m,se,co⟩ t)) ∧ Below w.heap.size w w':=by
 have HR:=hQ (show Qey ⟨s,4,k,l,m,se,co⟩ t = Qbu 4 t.kind t.text from by unfold Qey;rw [if_neg (fun e:(4:Nat) = 0=>absurd e (by decide))])
 have hn:=Qgl
 go_enter Tryz.func185,Tryz.ntmps185
 go_wp2_with (go_at_call 223;refine (callee_syn t _).mono ?_;rintro e w1 ⟨rfl,hb⟩;have HB:=hQ hb;clear hb)
 go_ret
 exact ⟨by rw [HR.out];rfl,(((xC _ _).alloc (xA _) _).alloc (by simp) _).trans (HB.out.mono (by simp;omega))⟩
theorem fits_5 (s:ByteArray) (k l m:Int) (se co:Bool) (t:Tok) (w:World):Calls Tryz.prog 185 #[.agg #[.string s,.func (.func 221) #[] #[],.int .i64 k,.int .i64 l,.int .i64 m,.bool se,.bool co],.agg #[.int .i64 t.kind,.string t.lead,.string t.text]] w fun e w'=>e = .returned (.bool (Qey ⟨s,5,k,l,m,se,co⟩ t)) ∧ Below w.heap.size w w':=by
 have HR:=hQ (show Qey ⟨s,5,k,l,m,se,co⟩ t = Qbu 5 t.kind t.text from by unfold Qey;rw [if_neg (fun e:(5:Nat) = 0=>absurd e (by decide))])
 have hn:=Qgl
 go_enter Tryz.func185,Tryz.ntmps185
 go_wp2_with (go_at_call 221;refine (number_syn t _).mono ?_;rintro e w1 ⟨rfl,hb⟩;have HB:=hQ hb;clear hb)
 go_ret
 exact ⟨by rw [HR.out];rfl,(((xC _ _).alloc (xA _) _).alloc (by simp) _).trans (HB.out.mono (by simp;omega))⟩
theorem fits_6 (s:ByteArray) (k l m:Int) (se co:Bool) (t:Tok) (w:World):Calls Tryz.prog 185 #[.agg #[.string s,.func (.func 222) #[] #[],.int .i64 k,.int .i64 l,.int .i64 m,.bool se,.bool co],.agg #[.int .i64 t.kind,.string t.lead,.string t.text]] w fun e w'=>e = .returned (.bool (Qey ⟨s,6,k,l,m,se,co⟩ t)) ∧ Below w.heap.size w w':=by
 have HR:=hQ (show Qey ⟨s,6,k,l,m,se,co⟩ t = Qbu 6 t.kind t.text from by unfold Qey;rw [if_neg (fun e:(6:Nat) = 0=>absurd e (by decide))])
 have hn:=Qgl
 go_enter Tryz.func185,Tryz.ntmps185
 go_wp2_with (go_at_call 222;refine (quoted_syn t _).mono ?_;rintro e w1 ⟨rfl,hb⟩;have HB:=hQ hb;clear hb)
 go_ret
 exact ⟨by rw [HR.out];rfl,(((xC _ _).alloc (xA _) _).alloc (by simp) _).trans (HB.out.mono (by simp;omega))⟩
theorem fits_7 (s:ByteArray) (k l m:Int) (se co:Bool) (t:Tok) (w:World):Calls Tryz.prog 185 #[.agg #[.string s,.func (.func 184) #[] #[],.int .i64 k,.int .i64 l,.int .i64 m,.bool se,.bool co],.agg #[.int .i64 t.kind,.string t.lead,.string t.text]] w fun e w'=>e = .returned (.bool (Qey ⟨s,7,k,l,m,se,co⟩ t)) ∧ Below w.heap.size w w':=by
 have HR:=hQ (show Qey ⟨s,7,k,l,m,se,co⟩ t = opB t.text from by unfold Qey;rw [if_neg (fun e:(7:Nat) = 0=>absurd e (by decide))];rfl)
 have hn:=Qgl
 go_enter Tryz.func185,Tryz.ntmps185
 go_wp2_with (go_at_call 184;refine (Qgc t _).mono ?_;rintro e w1 ⟨rfl,hb⟩;have HB:=hQ hb;clear hb)
 go_ret
 exact ⟨by rw [HR.out];rfl,(((xC _ _).alloc (xA _) _).alloc (by simp) _).trans (HB.out.mono (by simp;omega))⟩
theorem fits_syn (x:Part) (hx:x.nm ≤ 7) (t:Tok) (w:World):Calls Tryz.prog 185 #[.agg #[.string x.word,fnV x.nm,.int .i64 x.kids,.int .i64 x.least,.int .i64 x.most,.bool x.series,.bool x.commas],.agg #[.int .i64 t.kind,.string t.lead,.string t.text]] w fun e w'=>e = .returned (.bool (Qey x t)) ∧ Below w.heap.size w w':=by
 obtain ⟨s,n,k,l,m,se,co⟩:=x
 match n,hx with
 | 0,_=>exact fits_0 s k l m se co t w
 | 1,_=>exact fits_1 s k l m se co t w
 | 2,_=>exact fits_2 s k l m se co t w
 | 3,_=>exact fits_3 s k l m se co t w
 | 4,_=>exact fits_4 s k l m se co t w
 | 5,_=>exact fits_5 s k l m se co t w
 | 6,_=>exact fits_6 s k l m se co t w
 | 7,_=>exact fits_7 s k l m se co t w
 | n + 8,h=>exact absurd h (by show ¬ n + 8 ≤ 7;omega)
end Go.Proofs.YtjidpkcjpgdafaaGreat
