/- Part 12 -/
import Derived.Test.YtjidpkcjpgdafaaGreatSf11
set_option maxRecDepth 100000
set_option maxHeartbeats 4000000
namespace Go.Proofs.YtjidpkcjpgdafaaGreat
open Go.RowKit
theorem Qaq (x:ByteArray) (l:List UInt8):(x.toList==l)=is x l:=by rw [ByteArray.toList_eq];rfl
theorem Qm5 (t:Tok) (w:World):Calls Tryz.prog 174 #[.agg #[.int .i64 t.kind,.string t.lead,.string t.text]] w fun e w'=>e = .returned (.bool (Qa9 1 t.kind t.text))∧Below w.heap.size w w':=by
 go_enter Tryz.func174,Tryz.ntmps174
 go_wp2
 go_ret
 exact ⟨rfl,(xC _ _).alloc (xA _) _⟩
theorem Qhu (t:Tok) (w:World):Calls Tryz.prog 176 #[.agg #[.int .i64 t.kind,.string t.lead,.string t.text]] w fun e w'=>e = .returned (.bool (Qa9 2 t.kind t.text))∧Below w.heap.size w w':=by
 go_enter Tryz.func176,Tryz.ntmps176
 go_wp2
 go_ret
 exact ⟨rfl,(xC _ _).alloc (xA _) _⟩
theorem Qk8 (t:Tok) (w:World):Calls Tryz.prog 221 #[.agg #[.int .i64 t.kind,.string t.lead,.string t.text]] w fun e w'=>e = .returned (.bool (Qa9 5 t.kind t.text))∧Below w.heap.size w w':=by
 go_enter Tryz.func221,Tryz.ntmps221
 go_wp2
 go_ret
 exact ⟨rfl,(xC _ _).alloc (xA _) _⟩
theorem Qk9 (t:Tok) (w:World):Calls Tryz.prog 222 #[.agg #[.int .i64 t.kind,.string t.lead,.string t.text]] w fun e w'=>e = .returned (.bool (Qa9 6 t.kind t.text))∧Below w.heap.size w w':=by
 go_enter Tryz.func222,Tryz.ntmps222
 go_wp2
 go_ret
 exact ⟨rfl,(xC _ _).alloc (xA _) _⟩
theorem Qfy (t:Tok) (w:World):Calls Tryz.prog 178 #[.agg #[.int .i64 t.kind,.string t.lead,.string t.text]] w fun e w'=>e = .returned (.bool (Qa9 3 t.kind t.text))∧Below w.heap.size w w':=by
 cases h1:(t.kind==2)
 ·cases h2:(t.kind==4)
  all_goals
   have HR:=hQ (show Qa9 3 t.kind t.text=_ from by unfold Qa9;simp only [h1,h2];rfl)
   go_enter Tryz.func178,Tryz.ntmps178
   go_wp2
   go_ret
   exact ⟨by rw [HR.out];rfl,(xC _ _).alloc (xA _) _⟩
 ·have HR:=hQ (show Qa9 3 t.kind t.text=true from by unfold Qa9;simp only [h1];rfl)
  go_enter Tryz.func178,Tryz.ntmps178
  go_wp2
  go_ret
  exact ⟨by rw [HR.out];rfl,(xC _ _).alloc (xA _) _⟩
theorem Qla (t:Tok) (w:World):Calls Tryz.prog 223 #[.agg #[.int .i64 t.kind,.string t.lead,.string t.text]] w fun e w'=>e = .returned (.bool (Qa9 4 t.kind t.text))∧Below w.heap.size w w':=by
 cases h1:(t.kind==1)
 ·cases h2:(t.kind==3)
  all_goals
   have HR:=hQ (show Qa9 4 t.kind t.text=_ from by unfold Qa9;simp only [h1,h2];rfl)
   go_enter Tryz.func223,Tryz.ntmps223
   go_wp2
   go_ret
   exact ⟨by rw [HR.out];rfl,(xC _ _).alloc (xA _) _⟩
 ·have HR:=hQ (show Qa9 4 t.kind t.text=true from by unfold Qa9;simp only [h1];rfl)
  go_enter Tryz.func223,Tryz.ntmps223
  go_wp2
  go_ret
  exact ⟨by rw [HR.out];rfl,(xC _ _).alloc (xA _) _⟩
theorem Qra (t:Tok) (w:World) (h0:(t.text.toList == [43])=true):Calls Tryz.prog 184 #[.agg #[.int .i64 t.kind,.string t.lead,.string t.text]] w fun e w'=>e = .returned (.bool (opB t.text))∧Below w.heap.size w w':=by
 have HR:=hQ (show opB t.text=true from by unfold opB;simp only [←Qaq,h0];rfl)
 go_enter Tryz.func184,Tryz.ntmps184
 go_wp2
 go_ret
 exact ⟨by rw [HR.out];rfl,(xC _ _).alloc (xA _) _⟩
theorem Qrb (t:Tok) (w:World) (h0:(t.text.toList == [43])=false) (h1:(t.text.toList == [45])=true):Calls Tryz.prog 184 #[.agg #[.int .i64 t.kind,.string t.lead,.string t.text]] w fun e w'=>e = .returned (.bool (opB t.text))∧Below w.heap.size w w':=by
 have HR:=hQ (show opB t.text=true from by unfold opB;simp only [←Qaq,h0,h1];rfl)
 go_enter Tryz.func184,Tryz.ntmps184
 go_wp2
 go_ret
 exact ⟨by rw [HR.out];rfl,(xC _ _).alloc (xA _) _⟩
theorem Qrc (t:Tok) (w:World) (h0:(t.text.toList == [43])=false) (h1:(t.text.toList == [45])=false) (h2:(t.text.toList == [42])=true):Calls Tryz.prog 184 #[.agg #[.int .i64 t.kind,.string t.lead,.string t.text]] w fun e w'=>e = .returned (.bool (opB t.text))∧Below w.heap.size w w':=by
 have HR:=hQ (show opB t.text=true from by unfold opB;simp only [←Qaq,h0,h1,h2];rfl)
 go_enter Tryz.func184,Tryz.ntmps184
 go_wp2
 go_ret
 exact ⟨by rw [HR.out];rfl,(xC _ _).alloc (xA _) _⟩
theorem Qrd (t:Tok) (w:World) (h0:(t.text.toList == [43])=false) (h1:(t.text.toList == [45])=false) (h2:(t.text.toList == [42])=false) (h3:(t.text.toList == [60])=true):Calls Tryz.prog 184 #[.agg #[.int .i64 t.kind,.string t.lead,.string t.text]] w fun e w'=>e = .returned (.bool (opB t.text))∧Below w.heap.size w w':=by
 have HR:=hQ (show opB t.text=true from by unfold opB;simp only [←Qaq,h0,h1,h2,h3];rfl)
 go_enter Tryz.func184,Tryz.ntmps184
 go_wp2
 go_ret
 exact ⟨by rw [HR.out];rfl,(xC _ _).alloc (xA _) _⟩
theorem Qre (t:Tok) (w:World) (h0:(t.text.toList == [43])=false) (h1:(t.text.toList == [45])=false) (h2:(t.text.toList == [42])=false) (h3:(t.text.toList == [60])=false) (h4:(t.text.toList == [61,61])=true):Calls Tryz.prog 184 #[.agg #[.int .i64 t.kind,.string t.lead,.string t.text]] w fun e w'=>e = .returned (.bool (opB t.text))∧Below w.heap.size w w':=by
 have HR:=hQ (show opB t.text=true from by unfold opB;simp only [←Qaq,h0,h1,h2,h3,h4];rfl)
 go_enter Tryz.func184,Tryz.ntmps184
 go_wp2
 go_ret
 exact ⟨by rw [HR.out];rfl,(xC _ _).alloc (xA _) _⟩
theorem Qrf (t:Tok) (w:World) (h0:(t.text.toList == [43])=false) (h1:(t.text.toList == [45])=false) (h2:(t.text.toList == [42])=false) (h3:(t.text.toList == [60])=false) (h4:(t.text.toList == [61,61])=false):Calls Tryz.prog 184 #[.agg #[.int .i64 t.kind,.string t.lead,.string t.text]] w fun e w'=>e = .returned (.bool (opB t.text))∧Below w.heap.size w w':=by
 have HR:=hQ (show opB t.text=false from by unfold opB;simp only [←Qaq,h0,h1,h2,h3,h4];rfl)
 go_enter Tryz.func184,Tryz.ntmps184
 go_wp2
 go_ret
 exact ⟨by rw [HR.out];rfl,(xC _ _).alloc (xA _) _⟩
theorem Qe6 (t:Tok) (w:World):Calls Tryz.prog 184 #[.agg #[.int .i64 t.kind,.string t.lead,.string t.text]] w fun e w'=>e = .returned (.bool (opB t.text))∧Below w.heap.size w w':=by
 cases h0:(t.text.toList == [43])
 case true=>exact Qra t w h0
 cases h1:(t.text.toList == [45])
 case true=>exact Qrb t w h0 h1
 cases h2:(t.text.toList == [42])
 case true=>exact Qrc t w h0 h1 h2
 cases h3:(t.text.toList == [60])
 case true=>exact Qrd t w h0 h1 h2 h3
 cases h4:(t.text.toList == [61,61])
 case true=>exact Qre t w h0 h1 h2 h3 h4
 exact Qrf t w h0 h1 h2 h3 h4
theorem Qjk (t:Tok) (w:World) (h0:(t.text.toList == [100,101,102])=true):Calls Tryz.prog 224 #[.agg #[.int .i64 t.kind,.string t.lead,.string t.text]] w fun e w'=>e = .returned (.int .i64 (Qd6 t.text))∧Below w.heap.size w w':=by
 have HR:=hQ (show Qd6 t.text=2 from by unfold Qd6;simp only [←Qaq,h0];rfl)
 go_enter Tryz.func224,Tryz.ntmps224
 go_wp2
 go_ret
 exact ⟨by rw [HR.out];rfl,(xC _ _).alloc (xA _) _⟩
theorem Qjl (t:Tok) (w:World) (h0:(t.text.toList == [100,101,102])=false) (h1:(t.text.toList == [116,121,112,101])=true):Calls Tryz.prog 224 #[.agg #[.int .i64 t.kind,.string t.lead,.string t.text]] w fun e w'=>e = .returned (.int .i64 (Qd6 t.text))∧Below w.heap.size w w':=by
 have HR:=hQ (show Qd6 t.text=3 from by unfold Qd6;simp only [←Qaq,h0,h1];rfl)
 go_enter Tryz.func224,Tryz.ntmps224
 go_wp2
 go_ret
 exact ⟨by rw [HR.out];rfl,(xC _ _).alloc (xA _) _⟩
theorem Qjm (t:Tok) (w:World) (h0:(t.text.toList == [100,101,102])=false) (h1:(t.text.toList == [116,121,112,101])=false):Calls Tryz.prog 224 #[.agg #[.int .i64 t.kind,.string t.lead,.string t.text]] w fun e w'=>e = .returned (.int .i64 (Qd6 t.text))∧Below w.heap.size w w':=by
 have HR:=hQ (show Qd6 t.text=0 from by unfold Qd6;simp only [←Qaq,h0,h1];rfl)
 go_enter Tryz.func224,Tryz.ntmps224
 go_wp2
 go_ret
 exact ⟨by rw [HR.out];rfl,(xC _ _).alloc (xA _) _⟩
theorem Qhv (t:Tok) (w:World):Calls Tryz.prog 224 #[.agg #[.int .i64 t.kind,.string t.lead,.string t.text]] w fun e w'=>e = .returned (.int .i64 (Qd6 t.text))∧Below w.heap.size w w':=by
 cases h0:(t.text.toList == [100,101,102])
 case true=>exact Qjk t w h0
 cases h1:(t.text.toList == [116,121,112,101])
 case true=>exact Qjl t w h0 h1
 exact Qjm t w h0 h1
theorem Qfl (f:FuncId) (w:World):(binOp .neq 173 (.func (.func f) #[] #[]) .nilFunc).run Tryz.prog w = .ok (.bool true) w:=by kernel_rfl
theorem Qtb (w:World):(binOp .neq 173 .nilFunc .nilFunc).run Tryz.prog w = .ok (.bool false) w:=by kernel_rfl
theorem Qzh (s:ByteArray) (k l m:Int) (se co:Bool) (t:Tok) (w:World):Calls Tryz.prog 185 #[.agg #[.string s,.nilFunc,.int .i64 k,.int .i64 l,.int .i64 m,.bool se,.bool co],.agg #[.int .i64 t.kind,.string t.lead,.string t.text]] w fun e w'=>e = .returned (.bool (Qd5 ⟨s,0,k,l,m,se,co⟩ t))∧Below w.heap.size w w':=by
 have HR:=hQ (show Qd5 ⟨s,0,k,l,m,se,co⟩ t=(s.toList==t.text.toList) from by unfold Qd5;rw [xO rfl];unfold is;rw [ByteArray.toList_eq,ByteArray.toList_eq,Bool.eq_iff_iff];simp only [beq_iff_eq];exact eq_comm)
 have hn:=Qtb
 go_enter Tryz.func185,Tryz.ntmps185
 go_wp2
 go_ret
 exact ⟨by rw [HR.out];rfl,((xC _ _).alloc (xA _) _).alloc (by simp) _⟩
theorem Qzi (s:ByteArray) (k l m:Int) (se co:Bool) (t:Tok) (w:World):Calls Tryz.prog 185 #[.agg #[.string s,.func (.func 174) #[] #[],.int .i64 k,.int .i64 l,.int .i64 m,.bool se,.bool co],.agg #[.int .i64 t.kind,.string t.lead,.string t.text]] w fun e w'=>e = .returned (.bool (Qd5 ⟨s,1,k,l,m,se,co⟩ t))∧Below w.heap.size w w':=by
 have HR:=hQ (show Qd5 ⟨s,1,k,l,m,se,co⟩ t=Qa9 1 t.kind t.text from by unfold Qd5;rw [xN (fun e:(1:Nat)=0=>absurd e (by decide))])
 have hn:=Qfl
 go_enter Tryz.func185,Tryz.ntmps185
 go_wp2_with (go_at_call 174;refine (Qm5 t _).mono ?_;rintro e w1 ⟨rfl,hb⟩;have HB:=hQ hb;clear hb)
 go_ret
 exact ⟨by rw [HR.out];rfl,(((xC _ _).alloc (xA _) _).alloc (by simp) _).trans (HB.out.mono (by simp;omega))⟩
theorem Qzj (s:ByteArray) (k l m:Int) (se co:Bool) (t:Tok) (w:World):Calls Tryz.prog 185 #[.agg #[.string s,.func (.func 176) #[] #[],.int .i64 k,.int .i64 l,.int .i64 m,.bool se,.bool co],.agg #[.int .i64 t.kind,.string t.lead,.string t.text]] w fun e w'=>e = .returned (.bool (Qd5 ⟨s,2,k,l,m,se,co⟩ t))∧Below w.heap.size w w':=by
 have HR:=hQ (show Qd5 ⟨s,2,k,l,m,se,co⟩ t=Qa9 2 t.kind t.text from by unfold Qd5;rw [xN (fun e:(2:Nat)=0=>absurd e (by decide))])
 have hn:=Qfl
 go_enter Tryz.func185,Tryz.ntmps185
 go_wp2_with (go_at_call 176;refine (Qhu t _).mono ?_;rintro e w1 ⟨rfl,hb⟩;have HB:=hQ hb;clear hb)
 go_ret
 exact ⟨by rw [HR.out];rfl,(((xC _ _).alloc (xA _) _).alloc (by simp) _).trans (HB.out.mono (by simp;omega))⟩
theorem Qzk (s:ByteArray) (k l m:Int) (se co:Bool) (t:Tok) (w:World):Calls Tryz.prog 185 #[.agg #[.string s,.func (.func 178) #[] #[],.int .i64 k,.int .i64 l,.int .i64 m,.bool se,.bool co],.agg #[.int .i64 t.kind,.string t.lead,.string t.text]] w fun e w'=>e = .returned (.bool (Qd5 ⟨s,3,k,l,m,se,co⟩ t))∧Below w.heap.size w w':=by
 have HR:=hQ (show Qd5 ⟨s,3,k,l,m,se,co⟩ t=Qa9 3 t.kind t.text from by unfold Qd5;rw [xN (fun e:(3:Nat)=0=>absurd e (by decide))])
 have hn:=Qfl
 go_enter Tryz.func185,Tryz.ntmps185
 go_wp2_with (go_at_call 178;refine (Qfy t _).mono ?_;rintro e w1 ⟨rfl,hb⟩;have HB:=hQ hb;clear hb)
 go_ret
 exact ⟨by rw [HR.out];rfl,(((xC _ _).alloc (xA _) _).alloc (by simp) _).trans (HB.out.mono (by simp;omega))⟩
theorem Qzl (s:ByteArray) (k l m:Int) (se co:Bool) (t:Tok) (w:World):Calls Tryz.prog 185 #[.agg #[.string s,.func (.func 223) #[] #[],.int .i64 k,.int .i64 l,.int .i64 m,.bool se,.bool co],.agg #[.int .i64 t.kind,.string t.lead,.string t.text]] w fun e w'=>e = .returned (.bool (Qd5 ⟨s,4,k,l,m,se,co⟩ t))∧Below w.heap.size w w':=by
 have HR:=hQ (show Qd5 ⟨s,4,k,l,m,se,co⟩ t=Qa9 4 t.kind t.text from by unfold Qd5;rw [xN (fun e:(4:Nat)=0=>absurd e (by decide))])
 have hn:=Qfl
 go_enter Tryz.func185,Tryz.ntmps185
 go_wp2_with (go_at_call 223;refine (Qla t _).mono ?_;rintro e w1 ⟨rfl,hb⟩;have HB:=hQ hb;clear hb)
 go_ret
 exact ⟨by rw [HR.out];rfl,(((xC _ _).alloc (xA _) _).alloc (by simp) _).trans (HB.out.mono (by simp;omega))⟩
theorem Qzm (s:ByteArray) (k l m:Int) (se co:Bool) (t:Tok) (w:World):Calls Tryz.prog 185 #[.agg #[.string s,.func (.func 221) #[] #[],.int .i64 k,.int .i64 l,.int .i64 m,.bool se,.bool co],.agg #[.int .i64 t.kind,.string t.lead,.string t.text]] w fun e w'=>e = .returned (.bool (Qd5 ⟨s,5,k,l,m,se,co⟩ t))∧Below w.heap.size w w':=by
 have HR:=hQ (show Qd5 ⟨s,5,k,l,m,se,co⟩ t=Qa9 5 t.kind t.text from by unfold Qd5;rw [xN (fun e:(5:Nat)=0=>absurd e (by decide))])
 have hn:=Qfl
 go_enter Tryz.func185,Tryz.ntmps185
 go_wp2_with (go_at_call 221;refine (Qk8 t _).mono ?_;rintro e w1 ⟨rfl,hb⟩;have HB:=hQ hb;clear hb)
 go_ret
 exact ⟨by rw [HR.out];rfl,(((xC _ _).alloc (xA _) _).alloc (by simp) _).trans (HB.out.mono (by simp;omega))⟩
theorem Qzn (s:ByteArray) (k l m:Int) (se co:Bool) (t:Tok) (w:World):Calls Tryz.prog 185 #[.agg #[.string s,.func (.func 222) #[] #[],.int .i64 k,.int .i64 l,.int .i64 m,.bool se,.bool co],.agg #[.int .i64 t.kind,.string t.lead,.string t.text]] w fun e w'=>e = .returned (.bool (Qd5 ⟨s,6,k,l,m,se,co⟩ t))∧Below w.heap.size w w':=by
 have HR:=hQ (show Qd5 ⟨s,6,k,l,m,se,co⟩ t=Qa9 6 t.kind t.text from by unfold Qd5;rw [xN (fun e:(6:Nat)=0=>absurd e (by decide))])
 have hn:=Qfl
 go_enter Tryz.func185,Tryz.ntmps185
 go_wp2_with (go_at_call 222;refine (Qk9 t _).mono ?_;rintro e w1 ⟨rfl,hb⟩;have HB:=hQ hb;clear hb)
 go_ret
 exact ⟨by rw [HR.out];rfl,(((xC _ _).alloc (xA _) _).alloc (by simp) _).trans (HB.out.mono (by simp;omega))⟩
theorem Qzo (s:ByteArray) (k l m:Int) (se co:Bool) (t:Tok) (w:World):Calls Tryz.prog 185 #[.agg #[.string s,.func (.func 184) #[] #[],.int .i64 k,.int .i64 l,.int .i64 m,.bool se,.bool co],.agg #[.int .i64 t.kind,.string t.lead,.string t.text]] w fun e w'=>e = .returned (.bool (Qd5 ⟨s,7,k,l,m,se,co⟩ t))∧Below w.heap.size w w':=by
 have HR:=hQ (show Qd5 ⟨s,7,k,l,m,se,co⟩ t=opB t.text from by unfold Qd5;rw [xN (fun e:(7:Nat)=0=>absurd e (by decide))];rfl)
 have hn:=Qfl
 go_enter Tryz.func185,Tryz.ntmps185
 go_wp2_with (go_at_call 184;refine (Qe6 t _).mono ?_;rintro e w1 ⟨rfl,hb⟩;have HB:=hQ hb;clear hb)
 go_ret
 exact ⟨by rw [HR.out];rfl,(((xC _ _).alloc (xA _) _).alloc (by simp) _).trans (HB.out.mono (by simp;omega))⟩
theorem Qp1 (x:Part) (hx:x.nm≤7) (t:Tok) (w:World):Calls Tryz.prog 185 #[.agg #[.string x.word,fnV x.nm,.int .i64 x.kids,.int .i64 x.least,.int .i64 x.most,.bool x.series,.bool x.commas],.agg #[.int .i64 t.kind,.string t.lead,.string t.text]] w fun e w'=>e = .returned (.bool (Qd5 x t))∧Below w.heap.size w w':=by
 obtain ⟨s,n,k,l,m,se,co⟩:=x
 match n,hx with
 | 0,_=>exact Qzh s k l m se co t w
 | 1,_=>exact Qzi s k l m se co t w
 | 2,_=>exact Qzj s k l m se co t w
 | 3,_=>exact Qzk s k l m se co t w
 | 4,_=>exact Qzl s k l m se co t w
 | 5,_=>exact Qzm s k l m se co t w
 | 6,_=>exact Qzn s k l m se co t w
 | 7,_=>exact Qzo s k l m se co t w
 | n+8,h=>exact absurd h (by show ¬ n+8≤7;omega)
end Go.Proofs.YtjidpkcjpgdafaaGreat
