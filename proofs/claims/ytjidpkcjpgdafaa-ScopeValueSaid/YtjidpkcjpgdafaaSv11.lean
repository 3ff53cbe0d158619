/- Part 11: The contract of fits. -/
import Derived.Test.YtjidpkcjpgdafaaSv1
import Derived.Test.YtjidpkcjpgdafaaSv8
import Derived.Laws.EntriesVeiled
set_option maxRecDepth 100000
set_option maxHeartbeats 4000000
namespace Go.Proofs.Ytjidpkcjpgdafaa
open Go.RowKit
theorem Qdg (f:FuncId) (w:World):(binOp .neq 66 (.func (.func f) #[] #[]) .nilFunc).run Try.prog w = .ok (.bool true) w:=by kernel_rfl
theorem fn_nil (w:World):(binOp .neq 66 .nilFunc .nilFunc).run Try.prog w = .ok (.bool false) w:=by kernel_rfl
theorem fits_0 (s:ByteArray) (k l m:Int) (se co:Bool) (t:Tok) (w:World):Calls Try.prog 63 #[.agg #[.string s,.nilFunc,.int .i64 k,.int .i64 l,.int .i64 m,.bool se,.bool co],.agg #[.int .i64 t.kind,.string t.lead,.string t.text]] w fun e w'=>e = .returned (.bool (Qcc ⟨s,0,k,l,m,se,co⟩ t)) ∧ Below w.heap.size w w':=by
 have HR:=hQ (show Qcc ⟨s,0,k,l,m,se,co⟩ t = (s.toList == t.text.toList) from by unfold Qcc;rw [if_pos rfl];unfold is;rw [ByteArray.toList_eq,ByteArray.toList_eq,Bool.eq_iff_iff];simp only [beq_iff_eq];exact eq_comm)
 have hn:=fn_nil
 go_enter Try.func63,Try.ntmps63
 go_wp2
 go_ret
 exact ⟨by rw [HR.out];rfl,((xC _ _).alloc (xA _) _).alloc (by simp) _⟩
theorem fits_1 (s:ByteArray) (k l m:Int) (se co:Bool) (t:Tok) (w:World):Calls Try.prog 63 #[.agg #[.string s,.func (.func 42) #[] #[],.int .i64 k,.int .i64 l,.int .i64 m,.bool se,.bool co],.agg #[.int .i64 t.kind,.string t.lead,.string t.text]] w fun e w'=>e = .returned (.bool (Qcc ⟨s,1,k,l,m,se,co⟩ t)) ∧ Below w.heap.size w w':=by
 have HR:=hQ (show Qcc ⟨s,1,k,l,m,se,co⟩ t = Qbk 1 t.kind t.text from by unfold Qcc;rw [if_neg (fun e:(1:Nat) = 0=>absurd e (by decide))])
 have hn:=Qdg
 go_enter Try.func63,Try.ntmps63
 go_wp2_with (go_at_call 42;refine (upper_syn t _).mono ?_;rintro e w1 ⟨rfl,hb⟩;have HB:=hQ hb;clear hb)
 go_ret
 exact ⟨by rw [HR.out];rfl,(((xC _ _).alloc (xA _) _).alloc (by simp) _).trans (HB.out.mono (by simp;omega))⟩
theorem fits_2 (s:ByteArray) (k l m:Int) (se co:Bool) (t:Tok) (w:World):Calls Try.prog 63 #[.agg #[.string s,.func (.func 44) #[] #[],.int .i64 k,.int .i64 l,.int .i64 m,.bool se,.bool co],.agg #[.int .i64 t.kind,.string t.lead,.string t.text]] w fun e w'=>e = .returned (.bool (Qcc ⟨s,2,k,l,m,se,co⟩ t)) ∧ Below w.heap.size w w':=by
 have HR:=hQ (show Qcc ⟨s,2,k,l,m,se,co⟩ t = Qbk 2 t.kind t.text from by unfold Qcc;rw [if_neg (fun e:(2:Nat) = 0=>absurd e (by decide))])
 have hn:=Qdg
 go_enter Try.func63,Try.ntmps63
 go_wp2_with (go_at_call 44;refine (lower_syn t _).mono ?_;rintro e w1 ⟨rfl,hb⟩;have HB:=hQ hb;clear hb)
 go_ret
 exact ⟨by rw [HR.out];rfl,(((xC _ _).alloc (xA _) _).alloc (by simp) _).trans (HB.out.mono (by simp;omega))⟩
theorem fits_3 (s:ByteArray) (k l m:Int) (se co:Bool) (t:Tok) (w:World):Calls Try.prog 63 #[.agg #[.string s,.func (.func 46) #[] #[],.int .i64 k,.int .i64 l,.int .i64 m,.bool se,.bool co],.agg #[.int .i64 t.kind,.string t.lead,.string t.text]] w fun e w'=>e = .returned (.bool (Qcc ⟨s,3,k,l,m,se,co⟩ t)) ∧ Below w.heap.size w w':=by
 have HR:=hQ (show Qcc ⟨s,3,k,l,m,se,co⟩ t = Qbk 3 t.kind t.text from by unfold Qcc;rw [if_neg (fun e:(3:Nat) = 0=>absurd e (by decide))])
 have hn:=Qdg
 go_enter Try.func63,Try.ntmps63
 go_wp2_with (go_at_call 46;refine (Qdw t _).mono ?_;rintro e w1 ⟨rfl,hb⟩;have HB:=hQ hb;clear hb)
 go_ret
 exact ⟨by rw [HR.out];rfl,(((xC _ _).alloc (xA _) _).alloc (by simp) _).trans (HB.out.mono (by simp;omega))⟩
theorem fits_4 (s:ByteArray) (k l m:Int) (se co:Bool) (t:Tok) (w:World):Calls Try.prog 63 #[.agg #[.string s,.func (.func 70) #[] #[],.int .i64 k,.int .i64 l,.int .i64 m,.bool se,.bool co],.agg #[.int .i64 t.kind,.string t.lead,.string t.text]] w fun e w'=>e = .returned (.bool (Qcc ⟨s,4,k,l,m,se,co⟩ t)) ∧ Below w.heap.size w w':=by
 have HR:=hQ (show Qcc ⟨s,4,k,l,m,se,co⟩ t = Qbk 4 t.kind t.text from by unfold Qcc;rw [if_neg (fun e:(4:Nat) = 0=>absurd e (by decide))])
 have hn:=Qdg
 go_enter Try.func63,Try.ntmps63
 go_wp2_with (go_at_call 70;refine (callee_syn t _).mono ?_;rintro e w1 ⟨rfl,hb⟩;have HB:=hQ hb;clear hb)
 go_ret
 exact ⟨by rw [HR.out];rfl,(((xC _ _).alloc (xA _) _).alloc (by simp) _).trans (HB.out.mono (by simp;omega))⟩
theorem fits_5 (s:ByteArray) (k l m:Int) (se co:Bool) (t:Tok) (w:World):Calls Try.prog 63 #[.agg #[.string s,.func (.func 68) #[] #[],.int .i64 k,.int .i64 l,.int .i64 m,.bool se,.bool co],.agg #[.int .i64 t.kind,.string t.lead,.string t.text]] w fun e w'=>e = .returned (.bool (Qcc ⟨s,5,k,l,m,se,co⟩ t)) ∧ Below w.heap.size w w':=by
 have HR:=hQ (show Qcc ⟨s,5,k,l,m,se,co⟩ t = Qbk 5 t.kind t.text from by unfold Qcc;rw [if_neg (fun e:(5:Nat) = 0=>absurd e (by decide))])
 have hn:=Qdg
 go_enter Try.func63,Try.ntmps63
 go_wp2_with (go_at_call 68;refine (number_syn t _).mono ?_;rintro e w1 ⟨rfl,hb⟩;have HB:=hQ hb;clear hb)
 go_ret
 exact ⟨by rw [HR.out];rfl,(((xC _ _).alloc (xA _) _).alloc (by simp) _).trans (HB.out.mono (by simp;omega))⟩
theorem fits_6 (s:ByteArray) (k l m:Int) (se co:Bool) (t:Tok) (w:World):Calls Try.prog 63 #[.agg #[.string s,.func (.func 69) #[] #[],.int .i64 k,.int .i64 l,.int .i64 m,.bool se,.bool co],.agg #[.int .i64 t.kind,.string t.lead,.string t.text]] w fun e w'=>e = .returned (.bool (Qcc ⟨s,6,k,l,m,se,co⟩ t)) ∧ Below w.heap.size w w':=by
 have HR:=hQ (show Qcc ⟨s,6,k,l,m,se,co⟩ t = Qbk 6 t.kind t.text from by unfold Qcc;rw [if_neg (fun e:(6:Nat) = 0=>absurd e (by decide))])
 have hn:=Qdg
 go_enter Try.func63,Try.ntmps63
 go_wp2_with (go_at_call 69;refine (quoted_syn t _).mono ?_;rintro e w1 ⟨rfl,hb⟩;have HB:=hQ hb;clear hb)
 go_ret
 exact ⟨by rw [HR.out];rfl,(((xC _ _).alloc (xA _) _).alloc (by simp) _).trans (HB.out.mono (by simp;omega))⟩
theorem fits_7 (s:ByteArray) (k l m:Int) (se co:Bool) (t:Tok) (w:World):Calls Try.prog 63 #[.agg #[.string s,.func (.func 62) #[] #[],.int .i64 k,.int .i64 l,.int .i64 m,.bool se,.bool co],.agg #[.int .i64 t.kind,.string t.lead,.string t.text]] w fun e w'=>e = .returned (.bool (Qcc ⟨s,7,k,l,m,se,co⟩ t)) ∧ Below w.heap.size w w':=by
 have HR:=hQ (show Qcc ⟨s,7,k,l,m,se,co⟩ t = opB t.text from by unfold Qcc;rw [if_neg (fun e:(7:Nat) = 0=>absurd e (by decide))];rfl)
 have hn:=Qdg
 go_enter Try.func63,Try.ntmps63
 go_wp2_with (go_at_call 62;refine (Qc6 t _).mono ?_;rintro e w1 ⟨rfl,hb⟩;have HB:=hQ hb;clear hb)
 go_ret
 exact ⟨by rw [HR.out];rfl,(((xC _ _).alloc (xA _) _).alloc (by simp) _).trans (HB.out.mono (by simp;omega))⟩
theorem fits_syn (x:Part) (hx:x.nm ≤ 7) (t:Tok) (w:World):Calls Try.prog 63 #[.agg #[.string x.word,fnV x.nm,.int .i64 x.kids,.int .i64 x.least,.int .i64 x.most,.bool x.series,.bool x.commas],.agg #[.int .i64 t.kind,.string t.lead,.string t.text]] w fun e w'=>e = .returned (.bool (Qcc x t)) ∧ Below w.heap.size w w':=by
 obtain ⟨s,n,k,l,m,se,co⟩:=x
 match n,hx with
 | 0,_=>exact fits_0 s k l m se co t w
 | 1,_=>exact fits_1 s k l m se co t w
 | 2,_=>exact fits_2 s k l m se co t w
 | 3,_=>exact fits_3 s k l m se co t w
 | 4,_=>exact fits_4 s k l m se co t w
 | 5,_=>exact fits_5 s k l m se co t w
 | 6,_=>exact fits_6 s k l m se co t w
 | 7,_=>exact fits_7 s k l m se co t w
 | n + 8,h=>exact absurd h (by show ¬ n + 8 ≤ 7;omega)
end Go.Proofs.Ytjidpkcjpgdafaa
