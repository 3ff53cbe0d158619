/- Part 6 -/
import Derived.Test.YtjidpkcjpgdafaaGreatSe5
set_option maxRecDepth 100000
set_option maxHeartbeats 4000000
namespace Go.Proofs.YtjidpkcjpgdafaaGreat
open Go.RowKit
theorem Qa9 (x:ByteArray) (l:List UInt8):(x.toList==l)=is x l:=by rw [ByteArray.toList_eq];rfl
theorem Qqb (t:Tok) (w:World):Calls Tryz.prog 174 #[.agg #[.int .i64 t.kind,.string t.lead,.string t.text]] w fun e w'=>e = .returned (.bool (Qbv 1 t.kind t.text))∧Below w.heap.size w w':=by
 go_enter Tryz.func174,Tryz.ntmps174
 go_wp2
 go_ret
 exact ⟨rfl,(xC _ _).alloc (xA _) _⟩
theorem Qjr (t:Tok) (w:World):Calls Tryz.prog 176 #[.agg #[.int .i64 t.kind,.string t.lead,.string t.text]] w fun e w'=>e = .returned (.bool (Qbv 2 t.kind t.text))∧Below w.heap.size w w':=by
 go_enter Tryz.func176,Tryz.ntmps176
 go_wp2
 go_ret
 exact ⟨rfl,(xC _ _).alloc (xA _) _⟩
theorem Qn3 (t:Tok) (w:World):Calls Tryz.prog 221 #[.agg #[.int .i64 t.kind,.string t.lead,.string t.text]] w fun e w'=>e = .returned (.bool (Qbv 5 t.kind t.text))∧Below w.heap.size w w':=by
 go_enter Tryz.func221,Tryz.ntmps221
 go_wp2
 go_ret
 exact ⟨rfl,(xC _ _).alloc (xA _) _⟩
theorem Qn4 (t:Tok) (w:World):Calls Tryz.prog 222 #[.agg #[.int .i64 t.kind,.string t.lead,.string t.text]] w fun e w'=>e = .returned (.bool (Qbv 6 t.kind t.text))∧Below w.heap.size w w':=by
 go_enter Tryz.func222,Tryz.ntmps222
 go_wp2
 go_ret
 exact ⟨rfl,(xC _ _).alloc (xA _) _⟩
theorem Qhn (t:Tok) (w:World):Calls Tryz.prog 178 #[.agg #[.int .i64 t.kind,.string t.lead,.string t.text]] w fun e w'=>e = .returned (.bool (Qbv 3 t.kind t.text))∧Below w.heap.size w w':=by
 cases h1:(t.kind==2)
 ·cases h2:(t.kind==4)
  all_goals
   have HR:=hQ (show Qbv 3 t.kind t.text=_ from by unfold Qbv;simp only [h1,h2];rfl)
   go_enter Tryz.func178,Tryz.ntmps178
   go_wp2
   go_ret
   exact ⟨by rw [HR.out];rfl,(xC _ _).alloc (xA _) _⟩
 ·have HR:=hQ (show Qbv 3 t.kind t.text=true from by unfold Qbv;simp only [h1];rfl)
  go_enter Tryz.func178,Tryz.ntmps178
  go_wp2
  go_ret
  exact ⟨by rw [HR.out];rfl,(xC _ _).alloc (xA _) _⟩
theorem Qn5 (t:Tok) (w:World):Calls Tryz.prog 223 #[.agg #[.int .i64 t.kind,.string t.lead,.string t.text]] w fun e w'=>e = .returned (.bool (Qbv 4 t.kind t.text))∧Below w.heap.size w w':=by
 cases h1:(t.kind==1)
 ·cases h2:(t.kind==3)
  all_goals
   have HR:=hQ (show Qbv 4 t.kind t.text=_ from by unfold Qbv;simp only [h1,h2];rfl)
   go_enter Tryz.func223,Tryz.ntmps223
   go_wp2
   go_ret
   exact ⟨by rw [HR.out];rfl,(xC _ _).alloc (xA _) _⟩
 ·have HR:=hQ (show Qbv 4 t.kind t.text=true from by unfold Qbv;simp only [h1];rfl)
  go_enter Tryz.func223,Tryz.ntmps223
  go_wp2
  go_ret
  exact ⟨by rw [HR.out];rfl,(xC _ _).alloc (xA _) _⟩
theorem Quz (t:Tok) (w:World) (h0:(t.text.toList == [43])=true):Calls Tryz.prog 184 #[.agg #[.int .i64 t.kind,.string t.lead,.string t.text]] w fun e w'=>e = .returned (.bool (opB t.text))∧Below w.heap.size w w':=by
 have HR:=hQ (show opB t.text=true from by unfold opB;simp only [←Qa9,h0];rfl)
 go_enter Tryz.func184,Tryz.ntmps184
 go_wp2
 go_ret
 exact ⟨by rw [HR.out];rfl,(xC _ _).alloc (xA _) _⟩
theorem Qu0 (t:Tok) (w:World) (h0:(t.text.toList == [43])=false) (h1:(t.text.toList == [45])=true):Calls Tryz.prog 184 #[.agg #[.int .i64 t.kind,.string t.lead,.string t.text]] w fun e w'=>e = .returned (.bool (opB t.text))∧Below w.heap.size w w':=by
 have HR:=hQ (show opB t.text=true from by unfold opB;simp only [←Qa9,h0,h1];rfl)
 go_enter Tryz.func184,Tryz.ntmps184
 go_wp2
 go_ret
 exact ⟨by rw [HR.out];rfl,(xC _ _).alloc (xA _) _⟩
theorem Qu1 (t:Tok) (w:World) (h0:(t.text.toList == [43])=false) (h1:(t.text.toList == [45])=false) (h2:(t.text.toList == [42])=true):Calls Tryz.prog 184 #[.agg #[.int .i64 t.kind,.string t.lead,.string t.text]] w fun e w'=>e = .returned (.bool (opB t.text))∧Below w.heap.size w w':=by
 have HR:=hQ (show opB t.text=true from by unfold opB;simp only [←Qa9,h0,h1,h2];rfl)
 go_enter Tryz.func184,Tryz.ntmps184
 go_wp2
 go_ret
 exact ⟨by rw [HR.out];rfl,(xC _ _).alloc (xA _) _⟩
theorem Qu2 (t:Tok) (w:World) (h0:(t.text.toList == [43])=false) (h1:(t.text.toList == [45])=false) (h2:(t.text.toList == [42])=false) (h3:(t.text.toList == [60])=true):Calls Tryz.prog 184 #[.agg #[.int .i64 t.kind,.string t.lead,.string t.text]] w fun e w'=>e = .returned (.bool (opB t.text))∧Below w.heap.size w w':=by
 have HR:=hQ (show opB t.text=true from by unfold opB;simp only [←Qa9,h0,h1,h2,h3];rfl)
 go_enter Tryz.func184,Tryz.ntmps184
 go_wp2
 go_ret
 exact ⟨by rw [HR.out];rfl,(xC _ _).alloc (xA _) _⟩
theorem Qu3 (t:Tok) (w:World) (h0:(t.text.toList == [43])=false) (h1:(t.text.toList == [45])=false) (h2:(t.text.toList == [42])=false) (h3:(t.text.toList == [60])=false) (h4:(t.text.toList == [61,61])=true):Calls Tryz.prog 184 #[.agg #[.int .i64 t.kind,.string t.lead,.string t.text]] w fun e w'=>e = .returned (.bool (opB t.text))∧Below w.heap.size w w':=by
 have HR:=hQ (show opB t.text=true from by unfold opB;simp only [←Qa9,h0,h1,h2,h3,h4];rfl)
 go_enter Tryz.func184,Tryz.ntmps184
 go_wp2
 go_ret
 exact ⟨by rw [HR.out];rfl,(xC _ _).alloc (xA _) _⟩
theorem Qu4 (t:Tok) (w:World) (h0:(t.text.toList == [43])=false) (h1:(t.text.toList == [45])=false) (h2:(t.text.toList == [42])=false) (h3:(t.text.toList == [60])=false) (h4:(t.text.toList == [61,61])=false):Calls Tryz.prog 184 #[.agg #[.int .i64 t.kind,.string t.lead,.string t.text]] w fun e w'=>e = .returned (.bool (opB t.text))∧Below w.heap.size w w':=by
 have HR:=hQ (show opB t.text=false from by unfold opB;simp only [←Qa9,h0,h1,h2,h3,h4];rfl)
 go_enter Tryz.func184,Tryz.ntmps184
 go_wp2
 go_ret
 exact ⟨by rw [HR.out];rfl,(xC _ _).alloc (xA _) _⟩
theorem Qgu (t:Tok) (w:World):Calls Tryz.prog 184 #[.agg #[.int .i64 t.kind,.string t.lead,.string t.text]] w fun e w'=>e = .returned (.bool (opB t.text))∧Below w.heap.size w w':=by
 cases h0:(t.text.toList == [43])
 case true=>exact Quz t w h0
 cases h1:(t.text.toList == [45])
 case true=>exact Qu0 t w h0 h1
 cases h2:(t.text.toList == [42])
 case true=>exact Qu1 t w h0 h1 h2
 cases h3:(t.text.toList == [60])
 case true=>exact Qu2 t w h0 h1 h2 h3
 cases h4:(t.text.toList == [61,61])
 case true=>exact Qu3 t w h0 h1 h2 h3 h4
 exact Qu4 t w h0 h1 h2 h3 h4
theorem Qlo (t:Tok) (w:World) (h0:(t.text.toList == [100,101,102])=true):Calls Tryz.prog 224 #[.agg #[.int .i64 t.kind,.string t.lead,.string t.text]] w fun e w'=>e = .returned (.int .i64 (Qe7 t.text))∧Below w.heap.size w w':=by
 have HR:=hQ (show Qe7 t.text=2 from by unfold Qe7;simp only [←Qa9,h0];rfl)
 go_enter Tryz.func224,Tryz.ntmps224
 go_wp2
 go_ret
 exact ⟨by rw [HR.out];rfl,(xC _ _).alloc (xA _) _⟩
theorem Qlp (t:Tok) (w:World) (h0:(t.text.toList == [100,101,102])=false) (h1:(t.text.toList == [116,121,112,101])=true):Calls Tryz.prog 224 #[.agg #[.int .i64 t.kind,.string t.lead,.string t.text]] w fun e w'=>e = .returned (.int .i64 (Qe7 t.text))∧Below w.heap.size w w':=by
 have HR:=hQ (show Qe7 t.text=3 from by unfold Qe7;simp only [←Qa9,h0,h1];rfl)
 go_enter Tryz.func224,Tryz.ntmps224
 go_wp2
 go_ret
 exact ⟨by rw [HR.out];rfl,(xC _ _).alloc (xA _) _⟩
theorem Qlq (t:Tok) (w:World) (h0:(t.text.toList == [100,101,102])=false) (h1:(t.text.toList == [116,121,112,101])=false):Calls Tryz.prog 224 #[.agg #[.int .i64 t.kind,.string t.lead,.string t.text]] w fun e w'=>e = .returned (.int .i64 (Qe7 t.text))∧Below w.heap.size w w':=by
 have HR:=hQ (show Qe7 t.text=0 from by unfold Qe7;simp only [←Qa9,h0,h1];rfl)
 go_enter Tryz.func224,Tryz.ntmps224
 go_wp2
 go_ret
 exact ⟨by rw [HR.out];rfl,(xC _ _).alloc (xA _) _⟩
theorem Qjs (t:Tok) (w:World):Calls Tryz.prog 224 #[.agg #[.int .i64 t.kind,.string t.lead,.string t.text]] w fun e w'=>e = .returned (.int .i64 (Qe7 t.text))∧Below w.heap.size w w':=by
 cases h0:(t.text.toList == [100,101,102])
 case true=>exact Qlo t w h0
 cases h1:(t.text.toList == [116,121,112,101])
 case true=>exact Qlp t w h0 h1
 exact Qlq t w h0 h1
theorem Qg5 (f:FuncId) (w:World):(binOp .neq 173 (.func (.func f) #[] #[]) .nilFunc).run Tryz.prog w = .ok (.bool true) w:=by kernel_rfl
theorem Qx2 (w:World):(binOp .neq 173 .nilFunc .nilFunc).run Tryz.prog w = .ok (.bool false) w:=by kernel_rfl
theorem Zgm (s:ByteArray) (k l m:Int) (se co:Bool) (t:Tok) (w:World):Calls Tryz.prog 185 #[.agg #[.string s,.nilFunc,.int .i64 k,.int .i64 l,.int .i64 m,.bool se,.bool co],.agg #[.int .i64 t.kind,.string t.lead,.string t.text]] w fun e w'=>e = .returned (.bool (Qe6 ⟨s,0,k,l,m,se,co⟩ t))∧Below w.heap.size w w':=by
 have HR:=hQ (show Qe6 ⟨s,0,k,l,m,se,co⟩ t=(s.toList==t.text.toList) from by unfold Qe6;rw [xO rfl];unfold is;rw [ByteArray.toList_eq,ByteArray.toList_eq,Bool.eq_iff_iff];simp only [beq_iff_eq];exact eq_comm);have hn:=Qx2
 go_enter Tryz.func185,Tryz.ntmps185
 go_wp2
 go_ret
 exact ⟨by rw [HR.out];rfl,((xC _ _).alloc (xA _) _).alloc (by simp) _⟩
theorem Zgn (s:ByteArray) (k l m:Int) (se co:Bool) (t:Tok) (w:World):Calls Tryz.prog 185 #[.agg #[.string s,.func (.func 174) #[] #[],.int .i64 k,.int .i64 l,.int .i64 m,.bool se,.bool co],.agg #[.int .i64 t.kind,.string t.lead,.string t.text]] w fun e w'=>e = .returned (.bool (Qe6 ⟨s,1,k,l,m,se,co⟩ t))∧Below w.heap.size w w':=by
 have HR:=hQ (show Qe6 ⟨s,1,k,l,m,se,co⟩ t=Qbv 1 t.kind t.text from by unfold Qe6;rw [xN (fun e:(1:Nat)=0=>absurd e (by decide))]);have hn:=Qg5
 go_enter Tryz.func185,Tryz.ntmps185
 go_wp2_with (go_at_call 174;refine (Qqb t _).mono ?_;rintro e w1 ⟨rfl,hb⟩;have HB:=hQ hb;clear hb)
 go_ret
 exact ⟨by rw [HR.out];rfl,(((xC _ _).alloc (xA _) _).alloc (by simp) _).trans (HB.out.mono (by simp;omega))⟩
theorem Zgo (s:ByteArray) (k l m:Int) (se co:Bool) (t:Tok) (w:World):Calls Tryz.prog 185 #[.agg #[.string s,.func (.func 176) #[] #[],.int .i64 k,.int .i64 l,.int .i64 m,.bool se,.bool co],.agg #[.int .i64 t.kind,.string t.lead,.string t.text]] w fun e w'=>e = .returned (.bool (Qe6 ⟨s,2,k,l,m,se,co⟩ t))∧Below w.heap.size w w':=by
 have HR:=hQ (show Qe6 ⟨s,2,k,l,m,se,co⟩ t=Qbv 2 t.kind t.text from by unfold Qe6;rw [xN (fun e:(2:Nat)=0=>absurd e (by decide))]);have hn:=Qg5
 go_enter Tryz.func185,Tryz.ntmps185
 go_wp2_with (go_at_call 176;refine (Qjr t _).mono ?_;rintro e w1 ⟨rfl,hb⟩;have HB:=hQ hb;clear hb)
 go_ret
 exact ⟨by rw [HR.out];rfl,(((xC _ _).alloc (xA _) _).alloc (by simp) _).trans (HB.out.mono (by simp;omega))⟩
theorem Zgp (s:ByteArray) (k l m:Int) (se co:Bool) (t:Tok) (w:World):Calls Tryz.prog 185 #[.agg #[.string s,.func (.func 178) #[] #[],.int .i64 k,.int .i64 l,.int .i64 m,.bool se,.bool co],.agg #[.int .i64 t.kind,.string t.lead,.string t.text]] w fun e w'=>e = .returned (.bool (Qe6 ⟨s,3,k,l,m,se,co⟩ t))∧Below w.heap.size w w':=by
 have HR:=hQ (show Qe6 ⟨s,3,k,l,m,se,co⟩ t=Qbv 3 t.kind t.text from by unfold Qe6;rw [xN (fun e:(3:Nat)=0=>absurd e (by decide))]);have hn:=Qg5
 go_enter Tryz.func185,Tryz.ntmps185
 go_wp2_with (go_at_call 178;refine (Qhn t _).mono ?_;rintro e w1 ⟨rfl,hb⟩;have HB:=hQ hb;clear hb)
 go_ret
 exact ⟨by rw [HR.out];rfl,(((xC _ _).alloc (xA _) _).alloc (by simp) _).trans (HB.out.mono (by simp;omega))⟩
theorem Zgq (s:ByteArray) (k l m:Int) (se co:Bool) (t:Tok) (w:World):Calls Tryz.prog 185 #[.agg #[.string s,.func (.func 223) #[] #[],.int .i64 k,.int .i64 l,.int .i64 m,.bool se,.bool co],.agg #[.int .i64 t.kind,.string t.lead,.string t.text]] w fun e w'=>e = .returned (.bool (Qe6 ⟨s,4,k,l,m,se,co⟩ t))∧Below w.heap.size w w':=by
 have HR:=hQ (show Qe6 ⟨s,4,k,l,m,se,co⟩ t=Qbv 4 t.kind t.text from by unfold Qe6;rw [xN (fun e:(4:Nat)=0=>absurd e (by decide))]);have hn:=Qg5
 go_enter Tryz.func185,Tryz.ntmps185
 go_wp2_with (go_at_call 223;refine (Qn5 t _).mono ?_;rintro e w1 ⟨rfl,hb⟩;have HB:=hQ hb;clear hb)
 go_ret
 exact ⟨by rw [HR.out];rfl,(((xC _ _).alloc (xA _) _).alloc (by simp) _).trans (HB.out.mono (by simp;omega))⟩
theorem Zgr (s:ByteArray) (k l m:Int) (se co:Bool) (t:Tok) (w:World):Calls Tryz.prog 185 #[.agg #[.string s,.func (.func 221) #[] #[],.int .i64 k,.int .i64 l,.int .i64 m,.bool se,.bool co],.agg #[.int .i64 t.kind,.string t.lead,.string t.text]] w fun e w'=>e = .returned (.bool (Qe6 ⟨s,5,k,l,m,se,co⟩ t))∧Below w.heap.size w w':=by
 have HR:=hQ (show Qe6 ⟨s,5,k,l,m,se,co⟩ t=Qbv 5 t.kind t.text from by unfold Qe6;rw [xN (fun e:(5:Nat)=0=>absurd e (by decide))]);have hn:=Qg5
 go_enter Tryz.func185,Tryz.ntmps185
 go_wp2_with (go_at_call 221;refine (Qn3 t _).mono ?_;rintro e w1 ⟨rfl,hb⟩;have HB:=hQ hb;clear hb)
 go_ret
 exact ⟨by rw [HR.out];rfl,(((xC _ _).alloc (xA _) _).alloc (by simp) _).trans (HB.out.mono (by simp;omega))⟩
theorem Zgs (s:ByteArray) (k l m:Int) (se co:Bool) (t:Tok) (w:World):Calls Tryz.prog 185 #[.agg #[.string s,.func (.func 222) #[] #[],.int .i64 k,.int .i64 l,.int .i64 m,.bool se,.bool co],.agg #[.int .i64 t.kind,.string t.lead,.string t.text]] w fun e w'=>e = .returned (.bool (Qe6 ⟨s,6,k,l,m,se,co⟩ t))∧Below w.heap.size w w':=by
 have HR:=hQ (show Qe6 ⟨s,6,k,l,m,se,co⟩ t=Qbv 6 t.kind t.text from by unfold Qe6;rw [xN (fun e:(6:Nat)=0=>absurd e (by decide))]);have hn:=Qg5
 go_enter Tryz.func185,Tryz.ntmps185
 go_wp2_with (go_at_call 222;refine (Qn4 t _).mono ?_;rintro e w1 ⟨rfl,hb⟩;have HB:=hQ hb;clear hb)
 go_ret
 exact ⟨by rw [HR.out];rfl,(((xC _ _).alloc (xA _) _).alloc (by simp) _).trans (HB.out.mono (by simp;omega))⟩
theorem Zgt (s:ByteArray) (k l m:Int) (se co:Bool) (t:Tok) (w:World):Calls Tryz.prog 185 #[.agg #[.string s,.func (.func 184) #[] #[],.int .i64 k,.int .i64 l,.int .i64 m,.bool se,.bool co],.agg #[.int .i64 t.kind,.string t.lead,.string t.text]] w fun e w'=>e = .returned (.bool (Qe6 ⟨s,7,k,l,m,se,co⟩ t))∧Below w.heap.size w w':=by
 have HR:=hQ (show Qe6 ⟨s,7,k,l,m,se,co⟩ t=opB t.text from by unfold Qe6;rw [xN (fun e:(7:Nat)=0=>absurd e (by decide))];rfl);have hn:=Qg5
 go_enter Tryz.func185,Tryz.ntmps185
 go_wp2_with (go_at_call 184;refine (Qgu t _).mono ?_;rintro e w1 ⟨rfl,hb⟩;have HB:=hQ hb;clear hb)
 go_ret
 exact ⟨by rw [HR.out];rfl,(((xC _ _).alloc (xA _) _).alloc (by simp) _).trans (HB.out.mono (by simp;omega))⟩
theorem Qtn (x:Part) (hx:x.nm≤7) (t:Tok) (w:World):Calls Tryz.prog 185 #[.agg #[.string x.word,fnV x.nm,.int .i64 x.kids,.int .i64 x.least,.int .i64 x.most,.bool x.series,.bool x.commas],.agg #[.int .i64 t.kind,.string t.lead,.string t.text]] w fun e w'=>e = .returned (.bool (Qe6 x t))∧Below w.heap.size w w':=by
 obtain ⟨s,n,k,l,m,se,co⟩:=x
 match n,hx with
 | 0,_=>exact Zgm s k l m se co t w
 | 1,_=>exact Zgn s k l m se co t w
 | 2,_=>exact Zgo s k l m se co t w
 | 3,_=>exact Zgp s k l m se co t w
 | 4,_=>exact Zgq s k l m se co t w
 | 5,_=>exact Zgr s k l m se co t w
 | 6,_=>exact Zgs s k l m se co t w
 | 7,_=>exact Zgt s k l m se co t w
 | n+8,h=>exact absurd h (by show ¬ n+8≤7;omega)
end Go.Proofs.YtjidpkcjpgdafaaGreat
