/- Part 5 -/
import Derived.Test.YtclkilljmdkfaaaGreatTf4
set_option maxRecDepth 100000
set_option maxHeartbeats 4000000
namespace Go.Proofs.YtclkilljmdkfaaaGreat
open Go.RowKit
theorem Qbc (x:ByteArray) (l:List UInt8):(x.toList==l)=is x l:=by rw [ByteArray.toList_eq];rfl
theorem Qqw (t:Tok) (w:World):Calls Tryz.prog 144 #[.agg #[.int .i64 t.kind,.string t.lead,.string t.text]] w fun e w'=>e = .returned (.bool (Qbq 1 t.kind t.text))∧Below w.heap.size w w':=by
 go_enter Tryz.func144,Tryz.ntmps144
 go_wp2
 go_ret
 exact ⟨rfl,(xC _ _).alloc (xA _) _⟩
theorem Qj7 (t:Tok) (w:World):Calls Tryz.prog 146 #[.agg #[.int .i64 t.kind,.string t.lead,.string t.text]] w fun e w'=>e = .returned (.bool (Qbq 2 t.kind t.text))∧Below w.heap.size w w':=by
 go_enter Tryz.func146,Tryz.ntmps146
 go_wp2
 go_ret
 exact ⟨rfl,(xC _ _).alloc (xA _) _⟩
theorem Qn7 (t:Tok) (w:World):Calls Tryz.prog 183 #[.agg #[.int .i64 t.kind,.string t.lead,.string t.text]] w fun e w'=>e = .returned (.bool (Qbq 5 t.kind t.text))∧Below w.heap.size w w':=by
 go_enter Tryz.func183,Tryz.ntmps183
 go_wp2
 go_ret
 exact ⟨rfl,(xC _ _).alloc (xA _) _⟩
theorem Qn8 (t:Tok) (w:World):Calls Tryz.prog 184 #[.agg #[.int .i64 t.kind,.string t.lead,.string t.text]] w fun e w'=>e = .returned (.bool (Qbq 6 t.kind t.text))∧Below w.heap.size w w':=by
 go_enter Tryz.func184,Tryz.ntmps184
 go_wp2
 go_ret
 exact ⟨rfl,(xC _ _).alloc (xA _) _⟩
theorem Qhx (t:Tok) (w:World):Calls Tryz.prog 148 #[.agg #[.int .i64 t.kind,.string t.lead,.string t.text]] w fun e w'=>e = .returned (.bool (Qbq 3 t.kind t.text))∧Below w.heap.size w w':=by
 cases h1:(t.kind==2)
 ·cases h2:(t.kind==4)
  all_goals
   have HR:=hQ (show Qbq 3 t.kind t.text=_ from by unfold Qbq;simp only [h1,h2];rfl)
   go_enter Tryz.func148,Tryz.ntmps148
   go_wp2
   go_ret
   exact ⟨by rw [HR.out];rfl,(xC _ _).alloc (xA _) _⟩
 ·have HR:=hQ (show Qbq 3 t.kind t.text=true from by unfold Qbq;simp only [h1];rfl)
  go_enter Tryz.func148,Tryz.ntmps148
  go_wp2
  go_ret
  exact ⟨by rw [HR.out];rfl,(xC _ _).alloc (xA _) _⟩
theorem Qn9 (t:Tok) (w:World):Calls Tryz.prog 185 #[.agg #[.int .i64 t.kind,.string t.lead,.string t.text]] w fun e w'=>e = .returned (.bool (Qbq 4 t.kind t.text))∧Below w.heap.size w w':=by
 cases h1:(t.kind==1)
 ·cases h2:(t.kind==3)
  all_goals
   have HR:=hQ (show Qbq 4 t.kind t.text=_ from by unfold Qbq;simp only [h1,h2];rfl)
   go_enter Tryz.func185,Tryz.ntmps185
   go_wp2
   go_ret
   exact ⟨by rw [HR.out];rfl,(xC _ _).alloc (xA _) _⟩
 ·have HR:=hQ (show Qbq 4 t.kind t.text=true from by unfold Qbq;simp only [h1];rfl)
  go_enter Tryz.func185,Tryz.ntmps185
  go_wp2
  go_ret
  exact ⟨by rw [HR.out];rfl,(xC _ _).alloc (xA _) _⟩
theorem Qwg (t:Tok) (w:World) (h0:(t.text.toList == [43])=true):Calls Tryz.prog 162 #[.agg #[.int .i64 t.kind,.string t.lead,.string t.text]] w fun e w'=>e = .returned (.bool (opB t.text))∧Below w.heap.size w w':=by
 have HR:=hQ (show opB t.text=true from by unfold opB;simp only [←Qbc,h0];rfl)
 go_enter Tryz.func162,Tryz.ntmps162
 go_wp2
 go_ret
 exact ⟨by rw [HR.out];rfl,(xC _ _).alloc (xA _) _⟩
theorem Qwh (t:Tok) (w:World) (h0:(t.text.toList == [43])=false) (h1:(t.text.toList == [45])=true):Calls Tryz.prog 162 #[.agg #[.int .i64 t.kind,.string t.lead,.string t.text]] w fun e w'=>e = .returned (.bool (opB t.text))∧Below w.heap.size w w':=by
 have HR:=hQ (show opB t.text=true from by unfold opB;simp only [←Qbc,h0,h1];rfl)
 go_enter Tryz.func162,Tryz.ntmps162
 go_wp2
 go_ret
 exact ⟨by rw [HR.out];rfl,(xC _ _).alloc (xA _) _⟩
theorem Qwi (t:Tok) (w:World) (h0:(t.text.toList == [43])=false) (h1:(t.text.toList == [45])=false) (h2:(t.text.toList == [42])=true):Calls Tryz.prog 162 #[.agg #[.int .i64 t.kind,.string t.lead,.string t.text]] w fun e w'=>e = .returned (.bool (opB t.text))∧Below w.heap.size w w':=by
 have HR:=hQ (show opB t.text=true from by unfold opB;simp only [←Qbc,h0,h1,h2];rfl)
 go_enter Tryz.func162,Tryz.ntmps162
 go_wp2
 go_ret
 exact ⟨by rw [HR.out];rfl,(xC _ _).alloc (xA _) _⟩
theorem Qwj (t:Tok) (w:World) (h0:(t.text.toList == [43])=false) (h1:(t.text.toList == [45])=false) (h2:(t.text.toList == [42])=false) (h3:(t.text.toList == [60])=true):Calls Tryz.prog 162 #[.agg #[.int .i64 t.kind,.string t.lead,.string t.text]] w fun e w'=>e = .returned (.bool (opB t.text))∧Below w.heap.size w w':=by
 have HR:=hQ (show opB t.text=true from by unfold opB;simp only [←Qbc,h0,h1,h2,h3];rfl)
 go_enter Tryz.func162,Tryz.ntmps162
 go_wp2
 go_ret
 exact ⟨by rw [HR.out];rfl,(xC _ _).alloc (xA _) _⟩
theorem Qwk (t:Tok) (w:World) (h0:(t.text.toList == [43])=false) (h1:(t.text.toList == [45])=false) (h2:(t.text.toList == [42])=false) (h3:(t.text.toList == [60])=false) (h4:(t.text.toList == [61,61])=true):Calls Tryz.prog 162 #[.agg #[.int .i64 t.kind,.string t.lead,.string t.text]] w fun e w'=>e = .returned (.bool (opB t.text))∧Below w.heap.size w w':=by
 have HR:=hQ (show opB t.text=true from by unfold opB;simp only [←Qbc,h0,h1,h2,h3,h4];rfl)
 go_enter Tryz.func162,Tryz.ntmps162
 go_wp2
 go_ret
 exact ⟨by rw [HR.out];rfl,(xC _ _).alloc (xA _) _⟩
theorem Qwl (t:Tok) (w:World) (h0:(t.text.toList == [43])=false) (h1:(t.text.toList == [45])=false) (h2:(t.text.toList == [42])=false) (h3:(t.text.toList == [60])=false) (h4:(t.text.toList == [61,61])=false):Calls Tryz.prog 162 #[.agg #[.int .i64 t.kind,.string t.lead,.string t.text]] w fun e w'=>e = .returned (.bool (opB t.text))∧Below w.heap.size w w':=by
 have HR:=hQ (show opB t.text=false from by unfold opB;simp only [←Qbc,h0,h1,h2,h3,h4];rfl)
 go_enter Tryz.func162,Tryz.ntmps162
 go_wp2
 go_ret
 exact ⟨by rw [HR.out];rfl,(xC _ _).alloc (xA _) _⟩
theorem Qgr (t:Tok) (w:World):Calls Tryz.prog 162 #[.agg #[.int .i64 t.kind,.string t.lead,.string t.text]] w fun e w'=>e = .returned (.bool (opB t.text))∧Below w.heap.size w w':=by
 cases h0:(t.text.toList == [43])
 case true=>exact Qwg t w h0
 cases h1:(t.text.toList == [45])
 case true=>exact Qwh t w h0 h1
 cases h2:(t.text.toList == [42])
 case true=>exact Qwi t w h0 h1 h2
 cases h3:(t.text.toList == [60])
 case true=>exact Qwj t w h0 h1 h2 h3
 cases h4:(t.text.toList == [61,61])
 case true=>exact Qwk t w h0 h1 h2 h3 h4
 exact Qwl t w h0 h1 h2 h3 h4
theorem Qlz (t:Tok) (w:World) (h0:(t.text.toList == [100,101,102])=true):Calls Tryz.prog 190 #[.agg #[.int .i64 t.kind,.string t.lead,.string t.text]] w fun e w'=>e = .returned (.int .i64 (Qe9 t.text))∧Below w.heap.size w w':=by
 have HR:=hQ (show Qe9 t.text=2 from by unfold Qe9;simp only [←Qbc,h0];rfl)
 go_enter Tryz.func190,Tryz.ntmps190
 go_wp2
 go_ret
 exact ⟨by rw [HR.out];rfl,(xC _ _).alloc (xA _) _⟩
theorem Ql0 (t:Tok) (w:World) (h0:(t.text.toList == [100,101,102])=false) (h1:(t.text.toList == [116,121,112,101])=true):Calls Tryz.prog 190 #[.agg #[.int .i64 t.kind,.string t.lead,.string t.text]] w fun e w'=>e = .returned (.int .i64 (Qe9 t.text))∧Below w.heap.size w w':=by
 have HR:=hQ (show Qe9 t.text=3 from by unfold Qe9;simp only [←Qbc,h0,h1];rfl)
 go_enter Tryz.func190,Tryz.ntmps190
 go_wp2
 go_ret
 exact ⟨by rw [HR.out];rfl,(xC _ _).alloc (xA _) _⟩
theorem Ql1 (t:Tok) (w:World) (h0:(t.text.toList == [100,101,102])=false) (h1:(t.text.toList == [116,121,112,101])=false):Calls Tryz.prog 190 #[.agg #[.int .i64 t.kind,.string t.lead,.string t.text]] w fun e w'=>e = .returned (.int .i64 (Qe9 t.text))∧Below w.heap.size w w':=by
 have HR:=hQ (show Qe9 t.text=0 from by unfold Qe9;simp only [←Qbc,h0,h1];rfl)
 go_enter Tryz.func190,Tryz.ntmps190
 go_wp2
 go_ret
 exact ⟨by rw [HR.out];rfl,(xC _ _).alloc (xA _) _⟩
theorem Qj8 (t:Tok) (w:World):Calls Tryz.prog 190 #[.agg #[.int .i64 t.kind,.string t.lead,.string t.text]] w fun e w'=>e = .returned (.int .i64 (Qe9 t.text))∧Below w.heap.size w w':=by
 cases h0:(t.text.toList == [100,101,102])
 case true=>exact Qlz t w h0
 cases h1:(t.text.toList == [116,121,112,101])
 case true=>exact Ql0 t w h0 h1
 exact Ql1 t w h0 h1
theorem Qg1 (f:FuncId) (w:World):(binOp .neq 132 (.func (.func f) #[] #[]) .nilFunc).run Tryz.prog w = .ok (.bool true) w:=by kernel_rfl
theorem Qzs (w:World):(binOp .neq 132 .nilFunc .nilFunc).run Tryz.prog w = .ok (.bool false) w:=by kernel_rfl
theorem Zj6 (s:ByteArray) (k l m:Int) (se co:Bool) (t:Tok) (w:World):Calls Tryz.prog 163 #[.agg #[.string s,.nilFunc,.int .i64 k,.int .i64 l,.int .i64 m,.bool se,.bool co],.agg #[.int .i64 t.kind,.string t.lead,.string t.text]] w fun e w'=>e = .returned (.bool (Qe8 ⟨s,0,k,l,m,se,co⟩ t))∧Below w.heap.size w w':=by
 have HR:=hQ (show Qe8 ⟨s,0,k,l,m,se,co⟩ t=(s.toList==t.text.toList) from by unfold Qe8;rw [xO rfl];unfold is;rw [ByteArray.toList_eq,ByteArray.toList_eq,Bool.eq_iff_iff];simp only [beq_iff_eq];exact eq_comm)
 have hn:=Qzs
 go_enter Tryz.func163,Tryz.ntmps163
 go_wp2
 go_ret
 exact ⟨by rw [HR.out];rfl,((xC _ _).alloc (xA _) _).alloc (by simp) _⟩
theorem Zj7 (s:ByteArray) (k l m:Int) (se co:Bool) (t:Tok) (w:World):Calls Tryz.prog 163 #[.agg #[.string s,.func (.func 144) #[] #[],.int .i64 k,.int .i64 l,.int .i64 m,.bool se,.bool co],.agg #[.int .i64 t.kind,.string t.lead,.string t.text]] w fun e w'=>e = .returned (.bool (Qe8 ⟨s,1,k,l,m,se,co⟩ t))∧Below w.heap.size w w':=by
 have HR:=hQ (show Qe8 ⟨s,1,k,l,m,se,co⟩ t=Qbq 1 t.kind t.text from by unfold Qe8;rw [xN (fun e:(1:Nat)=0=>absurd e (by decide))])
 have hn:=Qg1
 go_enter Tryz.func163,Tryz.ntmps163
 go_wp2_with (go_at_call 144;refine (Qqw t _).mono ?_;rintro e w1 ⟨rfl,hb⟩;have HB:=hQ hb;clear hb)
 go_ret
 exact ⟨by rw [HR.out];rfl,(((xC _ _).alloc (xA _) _).alloc (by simp) _).trans (HB.out.mono (by simp;omega))⟩
theorem Zj8 (s:ByteArray) (k l m:Int) (se co:Bool) (t:Tok) (w:World):Calls Tryz.prog 163 #[.agg #[.string s,.func (.func 146) #[] #[],.int .i64 k,.int .i64 l,.int .i64 m,.bool se,.bool co],.agg #[.int .i64 t.kind,.string t.lead,.string t.text]] w fun e w'=>e = .returned (.bool (Qe8 ⟨s,2,k,l,m,se,co⟩ t))∧Below w.heap.size w w':=by
 have HR:=hQ (show Qe8 ⟨s,2,k,l,m,se,co⟩ t=Qbq 2 t.kind t.text from by unfold Qe8;rw [xN (fun e:(2:Nat)=0=>absurd e (by decide))])
 have hn:=Qg1
 go_enter Tryz.func163,Tryz.ntmps163
 go_wp2_with (go_at_call 146;refine (Qj7 t _).mono ?_;rintro e w1 ⟨rfl,hb⟩;have HB:=hQ hb;clear hb)
 go_ret
 exact ⟨by rw [HR.out];rfl,(((xC _ _).alloc (xA _) _).alloc (by simp) _).trans (HB.out.mono (by simp;omega))⟩
theorem Zj9 (s:ByteArray) (k l m:Int) (se co:Bool) (t:Tok) (w:World):Calls Tryz.prog 163 #[.agg #[.string s,.func (.func 148) #[] #[],.int .i64 k,.int .i64 l,.int .i64 m,.bool se,.bool co],.agg #[.int .i64 t.kind,.string t.lead,.string t.text]] w fun e w'=>e = .returned (.bool (Qe8 ⟨s,3,k,l,m,se,co⟩ t))∧Below w.heap.size w w':=by
 have HR:=hQ (show Qe8 ⟨s,3,k,l,m,se,co⟩ t=Qbq 3 t.kind t.text from by unfold Qe8;rw [xN (fun e:(3:Nat)=0=>absurd e (by decide))])
 have hn:=Qg1
 go_enter Tryz.func163,Tryz.ntmps163
 go_wp2_with (go_at_call 148;refine (Qhx t _).mono ?_;rintro e w1 ⟨rfl,hb⟩;have HB:=hQ hb;clear hb)
 go_ret
 exact ⟨by rw [HR.out];rfl,(((xC _ _).alloc (xA _) _).alloc (by simp) _).trans (HB.out.mono (by simp;omega))⟩
theorem Zka (s:ByteArray) (k l m:Int) (se co:Bool) (t:Tok) (w:World):Calls Tryz.prog 163 #[.agg #[.string s,.func (.func 185) #[] #[],.int .i64 k,.int .i64 l,.int .i64 m,.bool se,.bool co],.agg #[.int .i64 t.kind,.string t.lead,.string t.text]] w fun e w'=>e = .returned (.bool (Qe8 ⟨s,4,k,l,m,se,co⟩ t))∧Below w.heap.size w w':=by
 have HR:=hQ (show Qe8 ⟨s,4,k,l,m,se,co⟩ t=Qbq 4 t.kind t.text from by unfold Qe8;rw [xN (fun e:(4:Nat)=0=>absurd e (by decide))])
 have hn:=Qg1
 go_enter Tryz.func163,Tryz.ntmps163
 go_wp2_with (go_at_call 185;refine (Qn9 t _).mono ?_;rintro e w1 ⟨rfl,hb⟩;have HB:=hQ hb;clear hb)
 go_ret
 exact ⟨by rw [HR.out];rfl,(((xC _ _).alloc (xA _) _).alloc (by simp) _).trans (HB.out.mono (by simp;omega))⟩
theorem Zkb (s:ByteArray) (k l m:Int) (se co:Bool) (t:Tok) (w:World):Calls Tryz.prog 163 #[.agg #[.string s,.func (.func 183) #[] #[],.int .i64 k,.int .i64 l,.int .i64 m,.bool se,.bool co],.agg #[.int .i64 t.kind,.string t.lead,.string t.text]] w fun e w'=>e = .returned (.bool (Qe8 ⟨s,5,k,l,m,se,co⟩ t))∧Below w.heap.size w w':=by
 have HR:=hQ (show Qe8 ⟨s,5,k,l,m,se,co⟩ t=Qbq 5 t.kind t.text from by unfold Qe8;rw [xN (fun e:(5:Nat)=0=>absurd e (by decide))])
 have hn:=Qg1
 go_enter Tryz.func163,Tryz.ntmps163
 go_wp2_with (go_at_call 183;refine (Qn7 t _).mono ?_;rintro e w1 ⟨rfl,hb⟩;have HB:=hQ hb;clear hb)
 go_ret
 exact ⟨by rw [HR.out];rfl,(((xC _ _).alloc (xA _) _).alloc (by simp) _).trans (HB.out.mono (by simp;omega))⟩
theorem Zkc (s:ByteArray) (k l m:Int) (se co:Bool) (t:Tok) (w:World):Calls Tryz.prog 163 #[.agg #[.string s,.func (.func 184) #[] #[],.int .i64 k,.int .i64 l,.int .i64 m,.bool se,.bool co],.agg #[.int .i64 t.kind,.string t.lead,.string t.text]] w fun e w'=>e = .returned (.bool (Qe8 ⟨s,6,k,l,m,se,co⟩ t))∧Below w.heap.size w w':=by
 have HR:=hQ (show Qe8 ⟨s,6,k,l,m,se,co⟩ t=Qbq 6 t.kind t.text from by unfold Qe8;rw [xN (fun e:(6:Nat)=0=>absurd e (by decide))])
 have hn:=Qg1
 go_enter Tryz.func163,Tryz.ntmps163
 go_wp2_with (go_at_call 184;refine (Qn8 t _).mono ?_;rintro e w1 ⟨rfl,hb⟩;have HB:=hQ hb;clear hb)
 go_ret
 exact ⟨by rw [HR.out];rfl,(((xC _ _).alloc (xA _) _).alloc (by simp) _).trans (HB.out.mono (by simp;omega))⟩
theorem Zkd (s:ByteArray) (k l m:Int) (se co:Bool) (t:Tok) (w:World):Calls Tryz.prog 163 #[.agg #[.string s,.func (.func 162) #[] #[],.int .i64 k,.int .i64 l,.int .i64 m,.bool se,.bool co],.agg #[.int .i64 t.kind,.string t.lead,.string t.text]] w fun e w'=>e = .returned (.bool (Qe8 ⟨s,7,k,l,m,se,co⟩ t))∧Below w.heap.size w w':=by
 have HR:=hQ (show Qe8 ⟨s,7,k,l,m,se,co⟩ t=opB t.text from by unfold Qe8;rw [xN (fun e:(7:Nat)=0=>absurd e (by decide))];rfl)
 have hn:=Qg1
 go_enter Tryz.func163,Tryz.ntmps163
 go_wp2_with (go_at_call 162;refine (Qgr t _).mono ?_;rintro e w1 ⟨rfl,hb⟩;have HB:=hQ hb;clear hb)
 go_ret
 exact ⟨by rw [HR.out];rfl,(((xC _ _).alloc (xA _) _).alloc (by simp) _).trans (HB.out.mono (by simp;omega))⟩
theorem Qus (x:Part) (hx:x.nm≤7) (t:Tok) (w:World):Calls Tryz.prog 163 #[.agg #[.string x.word,fnV x.nm,.int .i64 x.kids,.int .i64 x.least,.int .i64 x.most,.bool x.series,.bool x.commas],.agg #[.int .i64 t.kind,.string t.lead,.string t.text]] w fun e w'=>e = .returned (.bool (Qe8 x t))∧Below w.heap.size w w':=by
 obtain ⟨s,n,k,l,m,se,co⟩:=x
 match n,hx with
 | 0,_=>exact Zj6 s k l m se co t w
 | 1,_=>exact Zj7 s k l m se co t w
 | 2,_=>exact Zj8 s k l m se co t w
 | 3,_=>exact Zj9 s k l m se co t w
 | 4,_=>exact Zka s k l m se co t w
 | 5,_=>exact Zkb s k l m se co t w
 | 6,_=>exact Zkc s k l m se co t w
 | 7,_=>exact Zkd s k l m se co t w
 | n+8,h=>exact absurd h (by show ¬ n+8≤7;omega)
end Go.Proofs.YtclkilljmdkfaaaGreat
