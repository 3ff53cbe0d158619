/- Part 6 -/
import Derived.Test.YtjidpkcjpgdafaaGreatSd5
set_option maxRecDepth 100000
set_option maxHeartbeats 4000000
namespace Go.Proofs.YtjidpkcjpgdafaaGreat
open Go.RowKit
theorem Qa9 (x:ByteArray) (l:List UInt8):(x.toList==l)=is x l:=by rw [ByteArray.toList_eq];rfl
theorem Qpx (t:Tok) (w:World):Calls Tryz.prog 174 #[.agg #[.int .i64 t.kind,.string t.lead,.string t.text]] w fun e w'=>e = .returned (.bool (Qbv 1 t.kind t.text))∧Below w.heap.size w w':=by
 go_enter Tryz.func174,Tryz.ntmps174
 go_wp2
 go_ret
 exact ⟨rfl,(xC _ _).alloc (xA _) _⟩
theorem Qjp (t:Tok) (w:World):Calls Tryz.prog 176 #[.agg #[.int .i64 t.kind,.string t.lead,.string t.text]] w fun e w'=>e = .returned (.bool (Qbv 2 t.kind t.text))∧Below w.heap.size w w':=by
 go_enter Tryz.func176,Tryz.ntmps176
 go_wp2
 go_ret
 exact ⟨rfl,(xC _ _).alloc (xA _) _⟩
theorem Qnq (t:Tok) (w:World):Calls Tryz.prog 221 #[.agg #[.int .i64 t.kind,.string t.lead,.string t.text]] w fun e w'=>e = .returned (.bool (Qbv 5 t.kind t.text))∧Below w.heap.size w w':=by
 go_enter Tryz.func221,Tryz.ntmps221
 go_wp2
 go_ret
 exact ⟨rfl,(xC _ _).alloc (xA _) _⟩
theorem Qnr (t:Tok) (w:World):Calls Tryz.prog 222 #[.agg #[.int .i64 t.kind,.string t.lead,.string t.text]] w fun e w'=>e = .returned (.bool (Qbv 6 t.kind t.text))∧Below w.heap.size w w':=by
 go_enter Tryz.func222,Tryz.ntmps222
 go_wp2
 go_ret
 exact ⟨rfl,(xC _ _).alloc (xA _) _⟩
theorem Qhm (t:Tok) (w:World):Calls Tryz.prog 178 #[.agg #[.int .i64 t.kind,.string t.lead,.string t.text]] w fun e w'=>e = .returned (.bool (Qbv 3 t.kind t.text))∧Below w.heap.size w w':=by
 cases h1:(t.kind==2)
 ·cases h2:(t.kind==4)
  all_goals
   have HR:=hQ (show Qbv 3 t.kind t.text=_ from by unfold Qbv;simp only [h1,h2];rfl)
   go_enter Tryz.func178,Tryz.ntmps178
   go_wp2
   go_ret
   exact ⟨by rw [HR.out];rfl,(xC _ _).alloc (xA _) _⟩
 ·have HR:=hQ (show Qbv 3 t.kind t.text=true from by unfold Qbv;simp only [h1];rfl)
  go_enter Tryz.func178,Tryz.ntmps178
  go_wp2
  go_ret
  exact ⟨by rw [HR.out];rfl,(xC _ _).alloc (xA _) _⟩
theorem Qns (t:Tok) (w:World):Calls Tryz.prog 223 #[.agg #[.int .i64 t.kind,.string t.lead,.string t.text]] w fun e w'=>e = .returned (.bool (Qbv 4 t.kind t.text))∧Below w.heap.size w w':=by
 cases h1:(t.kind==1)
 ·cases h2:(t.kind==3)
  all_goals
   have HR:=hQ (show Qbv 4 t.kind t.text=_ from by unfold Qbv;simp only [h1,h2];rfl)
   go_enter Tryz.func223,Tryz.ntmps223
   go_wp2
   go_ret
   exact ⟨by rw [HR.out];rfl,(xC _ _).alloc (xA _) _⟩
 ·have HR:=hQ (show Qbv 4 t.kind t.text=true from by unfold Qbv;simp only [h1];rfl)
  go_enter Tryz.func223,Tryz.ntmps223
  go_wp2
  go_ret
  exact ⟨by rw [HR.out];rfl,(xC _ _).alloc (xA _) _⟩
theorem Qus (t:Tok) (w:World) (h0:(t.text.toList == [43])=true):Calls Tryz.prog 184 #[.agg #[.int .i64 t.kind,.string t.lead,.string t.text]] w fun e w'=>e = .returned (.bool (opB t.text))∧Below w.heap.size w w':=by
 have HR:=hQ (show opB t.text=true from by unfold opB;simp only [←Qa9,h0];rfl)
 go_enter Tryz.func184,Tryz.ntmps184
 go_wp2
 go_ret
 exact ⟨by rw [HR.out];rfl,(xC _ _).alloc (xA _) _⟩
theorem Qut (t:Tok) (w:World) (h0:(t.text.toList == [43])=false) (h1:(t.text.toList == [45])=true):Calls Tryz.prog 184 #[.agg #[.int .i64 t.kind,.string t.lead,.string t.text]] w fun e w'=>e = .returned (.bool (opB t.text))∧Below w.heap.size w w':=by
 have HR:=hQ (show opB t.text=true from by unfold opB;simp only [←Qa9,h0,h1];rfl)
 go_enter Tryz.func184,Tryz.ntmps184
 go_wp2
 go_ret
 exact ⟨by rw [HR.out];rfl,(xC _ _).alloc (xA _) _⟩
theorem Quu (t:Tok) (w:World) (h0:(t.text.toList == [43])=false) (h1:(t.text.toList == [45])=false) (h2:(t.text.toList == [42])=true):Calls Tryz.prog 184 #[.agg #[.int .i64 t.kind,.string t.lead,.string t.text]] w fun e w'=>e = .returned (.bool (opB t.text))∧Below w.heap.size w w':=by
 have HR:=hQ (show opB t.text=true from by unfold opB;simp only [←Qa9,h0,h1,h2];rfl)
 go_enter Tryz.func184,Tryz.ntmps184
 go_wp2
 go_ret
 exact ⟨by rw [HR.out];rfl,(xC _ _).alloc (xA _) _⟩
theorem Quv (t:Tok) (w:World) (h0:(t.text.toList == [43])=false) (h1:(t.text.toList == [45])=false) (h2:(t.text.toList == [42])=false) (h3:(t.text.toList == [60])=true):Calls Tryz.prog 184 #[.agg #[.int .i64 t.kind,.string t.lead,.string t.text]] w fun e w'=>e = .returned (.bool (opB t.text))∧Below w.heap.size w w':=by
 have HR:=hQ (show opB t.text=true from by unfold opB;simp only [←Qa9,h0,h1,h2,h3];rfl)
 go_enter Tryz.func184,Tryz.ntmps184
 go_wp2
 go_ret
 exact ⟨by rw [HR.out];rfl,(xC _ _).alloc (xA _) _⟩
theorem Quw (t:Tok) (w:World) (h0:(t.text.toList == [43])=false) (h1:(t.text.toList == [45])=false) (h2:(t.text.toList == [42])=false) (h3:(t.text.toList == [60])=false) (h4:(t.text.toList == [61,61])=true):Calls Tryz.prog 184 #[.agg #[.int .i64 t.kind,.string t.lead,.string t.text]] w fun e w'=>e = .returned (.bool (opB t.text))∧Below w.heap.size w w':=by
 have HR:=hQ (show opB t.text=true from by unfold opB;simp only [←Qa9,h0,h1,h2,h3,h4];rfl)
 go_enter Tryz.func184,Tryz.ntmps184
 go_wp2
 go_ret
 exact ⟨by rw [HR.out];rfl,(xC _ _).alloc (xA _) _⟩
theorem Qux (t:Tok) (w:World) (h0:(t.text.toList == [43])=false) (h1:(t.text.toList == [45])=false) (h2:(t.text.toList == [42])=false) (h3:(t.text.toList == [60])=false) (h4:(t.text.toList == [61,61])=false):Calls Tryz.prog 184 #[.agg #[.int .i64 t.kind,.string t.lead,.string t.text]] w fun e w'=>e = .returned (.bool (opB t.text))∧Below w.heap.size w w':=by
 have HR:=hQ (show opB t.text=false from by unfold opB;simp only [←Qa9,h0,h1,h2,h3,h4];rfl)
 go_enter Tryz.func184,Tryz.ntmps184
 go_wp2
 go_ret
 exact ⟨by rw [HR.out];rfl,(xC _ _).alloc (xA _) _⟩
theorem Qgr (t:Tok) (w:World):Calls Tryz.prog 184 #[.agg #[.int .i64 t.kind,.string t.lead,.string t.text]] w fun e w'=>e = .returned (.bool (opB t.text))∧Below w.heap.size w w':=by
 cases h0:(t.text.toList == [43])
 case true=>exact Qus t w h0
 cases h1:(t.text.toList == [45])
 case true=>exact Qut t w h0 h1
 cases h2:(t.text.toList == [42])
 case true=>exact Quu t w h0 h1 h2
 cases h3:(t.text.toList == [60])
 case true=>exact Quv t w h0 h1 h2 h3
 cases h4:(t.text.toList == [61,61])
 case true=>exact Quw t w h0 h1 h2 h3 h4
 exact Qux t w h0 h1 h2 h3 h4
theorem Qlj (t:Tok) (w:World) (h0:(t.text.toList == [100,101,102])=true):Calls Tryz.prog 224 #[.agg #[.int .i64 t.kind,.string t.lead,.string t.text]] w fun e w'=>e = .returned (.int .i64 (Qe5 t.text))∧Below w.heap.size w w':=by
 have HR:=hQ (show Qe5 t.text=2 from by unfold Qe5;simp only [←Qa9,h0];rfl)
 go_enter Tryz.func224,Tryz.ntmps224
 go_wp2
 go_ret
 exact ⟨by rw [HR.out];rfl,(xC _ _).alloc (xA _) _⟩
theorem Qlk (t:Tok) (w:World) (h0:(t.text.toList == [100,101,102])=false) (h1:(t.text.toList == [116,121,112,101])=true):Calls Tryz.prog 224 #[.agg #[.int .i64 t.kind,.string t.lead,.string t.text]] w fun e w'=>e = .returned (.int .i64 (Qe5 t.text))∧Below w.heap.size w w':=by
 have HR:=hQ (show Qe5 t.text=3 from by unfold Qe5;simp only [←Qa9,h0,h1];rfl)
 go_enter Tryz.func224,Tryz.ntmps224
 go_wp2
 go_ret
 exact ⟨by rw [HR.out];rfl,(xC _ _).alloc (xA _) _⟩
theorem Qll (t:Tok) (w:World) (h0:(t.text.toList == [100,101,102])=false) (h1:(t.text.toList == [116,121,112,101])=false):Calls Tryz.prog 224 #[.agg #[.int .i64 t.kind,.string t.lead,.string t.text]] w fun e w'=>e = .returned (.int .i64 (Qe5 t.text))∧Below w.heap.size w w':=by
 have HR:=hQ (show Qe5 t.text=0 from by unfold Qe5;simp only [←Qa9,h0,h1];rfl)
 go_enter Tryz.func224,Tryz.ntmps224
 go_wp2
 go_ret
 exact ⟨by rw [HR.out];rfl,(xC _ _).alloc (xA _) _⟩
theorem Qjq (t:Tok) (w:World):Calls Tryz.prog 224 #[.agg #[.int .i64 t.kind,.string t.lead,.string t.text]] w fun e w'=>e = .returned (.int .i64 (Qe5 t.text))∧Below w.heap.size w w':=by
 cases h0:(t.text.toList == [100,101,102])
 case true=>exact Qlj t w h0
 cases h1:(t.text.toList == [116,121,112,101])
 case true=>exact Qlk t w h0 h1
 exact Qll t w h0 h1
theorem Qg3 (f:FuncId) (w:World):(binOp .neq 173 (.func (.func f) #[] #[]) .nilFunc).run Tryz.prog w = .ok (.bool true) w:=by kernel_rfl
theorem Qxx (w:World):(binOp .neq 173 .nilFunc .nilFunc).run Tryz.prog w = .ok (.bool false) w:=by kernel_rfl
theorem Zgh (s:ByteArray) (k l m:Int) (se co:Bool) (t:Tok) (w:World):Calls Tryz.prog 185 #[.agg #[.string s,.nilFunc,.int .i64 k,.int .i64 l,.int .i64 m,.bool se,.bool co],.agg #[.int .i64 t.kind,.string t.lead,.string t.text]] w fun e w'=>e = .returned (.bool (Qe4 ⟨s,0,k,l,m,se,co⟩ t))∧Below w.heap.size w w':=by
 have HR:=hQ (show Qe4 ⟨s,0,k,l,m,se,co⟩ t=(s.toList==t.text.toList) from by unfold Qe4;rw [xO rfl];unfold is;rw [ByteArray.toList_eq,ByteArray.toList_eq,Bool.eq_iff_iff];simp only [beq_iff_eq];exact eq_comm)
 have hn:=Qxx
 go_enter Tryz.func185,Tryz.ntmps185
 go_wp2
 go_ret
 exact ⟨by rw [HR.out];rfl,((xC _ _).alloc (xA _) _).alloc (by simp) _⟩
theorem Zgi (s:ByteArray) (k l m:Int) (se co:Bool) (t:Tok) (w:World):Calls Tryz.prog 185 #[.agg #[.string s,.func (.func 174) #[] #[],.int .i64 k,.int .i64 l,.int .i64 m,.bool se,.bool co],.agg #[.int .i64 t.kind,.string t.lead,.string t.text]] w fun e w'=>e = .returned (.bool (Qe4 ⟨s,1,k,l,m,se,co⟩ t))∧Below w.heap.size w w':=by
 have HR:=hQ (show Qe4 ⟨s,1,k,l,m,se,co⟩ t=Qbv 1 t.kind t.text from by unfold Qe4;rw [xN (fun e:(1:Nat)=0=>absurd e (by decide))])
 have hn:=Qg3
 go_enter Tryz.func185,Tryz.ntmps185
 go_wp2_with (go_at_call 174;refine (Qpx t _).mono ?_;rintro e w1 ⟨rfl,hb⟩;have HB:=hQ hb;clear hb)
 go_ret
 exact ⟨by rw [HR.out];rfl,(((xC _ _).alloc (xA _) _).alloc (by simp) _).trans (HB.out.mono (by simp;omega))⟩
theorem Zgj (s:ByteArray) (k l m:Int) (se co:Bool) (t:Tok) (w:World):Calls Tryz.prog 185 #[.agg #[.string s,.func (.func 176) #[] #[],.int .i64 k,.int .i64 l,.int .i64 m,.bool se,.bool co],.agg #[.int .i64 t.kind,.string t.lead,.string t.text]] w fun e w'=>e = .returned (.bool (Qe4 ⟨s,2,k,l,m,se,co⟩ t))∧Below w.heap.size w w':=by
 have HR:=hQ (show Qe4 ⟨s,2,k,l,m,se,co⟩ t=Qbv 2 t.kind t.text from by unfold Qe4;rw [xN (fun e:(2:Nat)=0=>absurd e (by decide))])
 have hn:=Qg3
 go_enter Tryz.func185,Tryz.ntmps185
 go_wp2_with (go_at_call 176;refine (Qjp t _).mono ?_;rintro e w1 ⟨rfl,hb⟩;have HB:=hQ hb;clear hb)
 go_ret
 exact ⟨by rw [HR.out];rfl,(((xC _ _).alloc (xA _) _).alloc (by simp) _).trans (HB.out.mono (by simp;omega))⟩
theorem Zgk (s:ByteArray) (k l m:Int) (se co:Bool) (t:Tok) (w:World):Calls Tryz.prog 185 #[.agg #[.string s,.func (.func 178) #[] #[],.int .i64 k,.int .i64 l,.int .i64 m,.bool se,.bool co],.agg #[.int .i64 t.kind,.string t.lead,.string t.text]] w fun e w'=>e = .returned (.bool (Qe4 ⟨s,3,k,l,m,se,co⟩ t))∧Below w.heap.size w w':=by
 have HR:=hQ (show Qe4 ⟨s,3,k,l,m,se,co⟩ t=Qbv 3 t.kind t.text from by unfold Qe4;rw [xN (fun e:(3:Nat)=0=>absurd e (by decide))])
 have hn:=Qg3
 go_enter Tryz.func185,Tryz.ntmps185
 go_wp2_with (go_at_call 178;refine (Qhm t _).mono ?_;rintro e w1 ⟨rfl,hb⟩;have HB:=hQ hb;clear hb)
 go_ret
 exact ⟨by rw [HR.out];rfl,(((xC _ _).alloc (xA _) _).alloc (by simp) _).trans (HB.out.mono (by simp;omega))⟩
theorem Zgl (s:ByteArray) (k l m:Int) (se co:Bool) (t:Tok) (w:World):Calls Tryz.prog 185 #[.agg #[.string s,.func (.func 223) #[] #[],.int .i64 k,.int .i64 l,.int .i64 m,.bool se,.bool co],.agg #[.int .i64 t.kind,.string t.lead,.string t.text]] w fun e w'=>e = .returned (.bool (Qe4 ⟨s,4,k,l,m,se,co⟩ t))∧Below w.heap.size w w':=by
 have HR:=hQ (show Qe4 ⟨s,4,k,l,m,se,co⟩ t=Qbv 4 t.kind t.text from by unfold Qe4;rw [xN (fun e:(4:Nat)=0=>absurd e (by decide))])
 have hn:=Qg3
 go_enter Tryz.func185,Tryz.ntmps185
 go_wp2_with (go_at_call 223;refine (Qns t _).mono ?_;rintro e w1 ⟨rfl,hb⟩;have HB:=hQ hb;clear hb)
 go_ret
 exact ⟨by rw [HR.out];rfl,(((xC _ _).alloc (xA _) _).alloc (by simp) _).trans (HB.out.mono (by simp;omega))⟩
theorem Zgm (s:ByteArray) (k l m:Int) (se co:Bool) (t:Tok) (w:World):Calls Tryz.prog 185 #[.agg #[.string s,.func (.func 221) #[] #[],.int .i64 k,.int .i64 l,.int .i64 m,.bool se,.bool co],.agg #[.int .i64 t.kind,.string t.lead,.string t.text]] w fun e w'=>e = .returned (.bool (Qe4 ⟨s,5,k,l,m,se,co⟩ t))∧Below w.heap.size w w':=by
 have HR:=hQ (show Qe4 ⟨s,5,k,l,m,se,co⟩ t=Qbv 5 t.kind t.text from by unfold Qe4;rw [xN (fun e:(5:Nat)=0=>absurd e (by decide))])
 have hn:=Qg3
 go_enter Tryz.func185,Tryz.ntmps185
 go_wp2_with (go_at_call 221;refine (Qnq t _).mono ?_;rintro e w1 ⟨rfl,hb⟩;have HB:=hQ hb;clear hb)
 go_ret
 exact ⟨by rw [HR.out];rfl,(((xC _ _).alloc (xA _) _).alloc (by simp) _).trans (HB.out.mono (by simp;omega))⟩
theorem Zgn (s:ByteArray) (k l m:Int) (se co:Bool) (t:Tok) (w:World):Calls Tryz.prog 185 #[.agg #[.string s,.func (.func 222) #[] #[],.int .i64 k,.int .i64 l,.int .i64 m,.bool se,.bool co],.agg #[.int .i64 t.kind,.string t.lead,.string t.text]] w fun e w'=>e = .returned (.bool (Qe4 ⟨s,6,k,l,m,se,co⟩ t))∧Below w.heap.size w w':=by
 have HR:=hQ (show Qe4 ⟨s,6,k,l,m,se,co⟩ t=Qbv 6 t.kind t.text from by unfold Qe4;rw [xN (fun e:(6:Nat)=0=>absurd e (by decide))])
 have hn:=Qg3
 go_enter Tryz.func185,Tryz.ntmps185
 go_wp2_with (go_at_call 222;refine (Qnr t _).mono ?_;rintro e w1 ⟨rfl,hb⟩;have HB:=hQ hb;clear hb)
 go_ret
 exact ⟨by rw [HR.out];rfl,(((xC _ _).alloc (xA _) _).alloc (by simp) _).trans (HB.out.mono (by simp;omega))⟩
theorem Zgo (s:ByteArray) (k l m:Int) (se co:Bool) (t:Tok) (w:World):Calls Tryz.prog 185 #[.agg #[.string s,.func (.func 184) #[] #[],.int .i64 k,.int .i64 l,.int .i64 m,.bool se,.bool co],.agg #[.int .i64 t.kind,.string t.lead,.string t.text]] w fun e w'=>e = .returned (.bool (Qe4 ⟨s,7,k,l,m,se,co⟩ t))∧Below w.heap.size w w':=by
 have HR:=hQ (show Qe4 ⟨s,7,k,l,m,se,co⟩ t=opB t.text from by unfold Qe4;rw [xN (fun e:(7:Nat)=0=>absurd e (by decide))];rfl)
 have hn:=Qg3
 go_enter Tryz.func185,Tryz.ntmps185
 go_wp2_with (go_at_call 184;refine (Qgr t _).mono ?_;rintro e w1 ⟨rfl,hb⟩;have HB:=hQ hb;clear hb)
 go_ret
 exact ⟨by rw [HR.out];rfl,(((xC _ _).alloc (xA _) _).alloc (by simp) _).trans (HB.out.mono (by simp;omega))⟩
theorem Qtd (x:Part) (hx:x.nm≤7) (t:Tok) (w:World):Calls Tryz.prog 185 #[.agg #[.string x.word,fnV x.nm,.int .i64 x.kids,.int .i64 x.least,.int .i64 x.most,.bool x.series,.bool x.commas],.agg #[.int .i64 t.kind,.string t.lead,.string t.text]] w fun e w'=>e = .returned (.bool (Qe4 x t))∧Below w.heap.size w w':=by
 obtain ⟨s,n,k,l,m,se,co⟩:=x
 match n,hx with
 | 0,_=>exact Zgh s k l m se co t w
 | 1,_=>exact Zgi s k l m se co t w
 | 2,_=>exact Zgj s k l m se co t w
 | 3,_=>exact Zgk s k l m se co t w
 | 4,_=>exact Zgl s k l m se co t w
 | 5,_=>exact Zgm s k l m se co t w
 | 6,_=>exact Zgn s k l m se co t w
 | 7,_=>exact Zgo s k l m se co t w
 | n+8,h=>exact absurd h (by show ¬ n+8≤7;omega)
end Go.Proofs.YtjidpkcjpgdafaaGreat
