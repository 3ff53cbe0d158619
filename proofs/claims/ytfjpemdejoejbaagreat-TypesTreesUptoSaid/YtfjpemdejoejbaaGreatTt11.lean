/- Part 11 -/
import Derived.Test.YtfjpemdejoejbaaGreatTt10
set_option maxRecDepth 100000
set_option maxHeartbeats 4000000
namespace Go.Proofs.YtfjpemdejoejbaaGreat
open Go.RowKit
theorem Qa0 (x:ByteArray) (l:List UInt8):(x.toList==l)=is x l:=by rw [ByteArray.toList_eq];rfl
theorem Qoc (t:Tok) (w:World):Calls Tryz.prog 124 #[.agg #[.int .i64 t.kind,.string t.lead,.string t.text]] w fun e w'=>e = .returned (.bool (Qba 1 t.kind t.text))∧Below w.heap.size w w':=by
 go_enter Tryz.func124,Tryz.ntmps124
 go_wp2
 go_ret
 exact ⟨rfl,(xC _ _).alloc (xA _) _⟩
theorem Qic (t:Tok) (w:World):Calls Tryz.prog 126 #[.agg #[.int .i64 t.kind,.string t.lead,.string t.text]] w fun e w'=>e = .returned (.bool (Qba 2 t.kind t.text))∧Below w.heap.size w w':=by
 go_enter Tryz.func126,Tryz.ntmps126
 go_wp2
 go_ret
 exact ⟨rfl,(xC _ _).alloc (xA _) _⟩
theorem Qlv (t:Tok) (w:World):Calls Tryz.prog 154 #[.agg #[.int .i64 t.kind,.string t.lead,.string t.text]] w fun e w'=>e = .returned (.bool (Qba 5 t.kind t.text))∧Below w.heap.size w w':=by
 go_enter Tryz.func154,Tryz.ntmps154
 go_wp2
 go_ret
 exact ⟨rfl,(xC _ _).alloc (xA _) _⟩
theorem Qlw (t:Tok) (w:World):Calls Tryz.prog 155 #[.agg #[.int .i64 t.kind,.string t.lead,.string t.text]] w fun e w'=>e = .returned (.bool (Qba 6 t.kind t.text))∧Below w.heap.size w w':=by
 go_enter Tryz.func155,Tryz.ntmps155
 go_wp2
 go_ret
 exact ⟨rfl,(xC _ _).alloc (xA _) _⟩
theorem Qgk (t:Tok) (w:World):Calls Tryz.prog 128 #[.agg #[.int .i64 t.kind,.string t.lead,.string t.text]] w fun e w'=>e = .returned (.bool (Qba 3 t.kind t.text))∧Below w.heap.size w w':=by
 cases h1:(t.kind==2)
 ·cases h2:(t.kind==4)
  all_goals
   have HR:=hQ (show Qba 3 t.kind t.text=_ from by unfold Qba;simp only [h1,h2];rfl)
   go_enter Tryz.func128,Tryz.ntmps128
   go_wp2
   go_ret
   exact ⟨by rw [HR.out];rfl,(xC _ _).alloc (xA _) _⟩
 ·have HR:=hQ (show Qba 3 t.kind t.text=true from by unfold Qba;simp only [h1];rfl)
  go_enter Tryz.func128,Tryz.ntmps128
  go_wp2
  go_ret
  exact ⟨by rw [HR.out];rfl,(xC _ _).alloc (xA _) _⟩
theorem Qlx (t:Tok) (w:World):Calls Tryz.prog 156 #[.agg #[.int .i64 t.kind,.string t.lead,.string t.text]] w fun e w'=>e = .returned (.bool (Qba 4 t.kind t.text))∧Below w.heap.size w w':=by
 cases h1:(t.kind==1)
 ·cases h2:(t.kind==3)
  all_goals
   have HR:=hQ (show Qba 4 t.kind t.text=_ from by unfold Qba;simp only [h1,h2];rfl)
   go_enter Tryz.func156,Tryz.ntmps156
   go_wp2
   go_ret
   exact ⟨by rw [HR.out];rfl,(xC _ _).alloc (xA _) _⟩
 ·have HR:=hQ (show Qba 4 t.kind t.text=true from by unfold Qba;simp only [h1];rfl)
  go_enter Tryz.func156,Tryz.ntmps156
  go_wp2
  go_ret
  exact ⟨by rw [HR.out];rfl,(xC _ _).alloc (xA _) _⟩
theorem Qtd (t:Tok) (w:World) (h0:(t.text.toList == [43])=true):Calls Tryz.prog 134 #[.agg #[.int .i64 t.kind,.string t.lead,.string t.text]] w fun e w'=>e = .returned (.bool (opB t.text))∧Below w.heap.size w w':=by
 have HR:=hQ (show opB t.text=true from by unfold opB;simp only [←Qa0,h0];rfl)
 go_enter Tryz.func134,Tryz.ntmps134
 go_wp2
 go_ret
 exact ⟨by rw [HR.out];rfl,(xC _ _).alloc (xA _) _⟩
theorem Qte (t:Tok) (w:World) (h0:(t.text.toList == [43])=false) (h1:(t.text.toList == [45])=true):Calls Tryz.prog 134 #[.agg #[.int .i64 t.kind,.string t.lead,.string t.text]] w fun e w'=>e = .returned (.bool (opB t.text))∧Below w.heap.size w w':=by
 have HR:=hQ (show opB t.text=true from by unfold opB;simp only [←Qa0,h0,h1];rfl)
 go_enter Tryz.func134,Tryz.ntmps134
 go_wp2
 go_ret
 exact ⟨by rw [HR.out];rfl,(xC _ _).alloc (xA _) _⟩
theorem Qtf (t:Tok) (w:World) (h0:(t.text.toList == [43])=false) (h1:(t.text.toList == [45])=false) (h2:(t.text.toList == [42])=true):Calls Tryz.prog 134 #[.agg #[.int .i64 t.kind,.string t.lead,.string t.text]] w fun e w'=>e = .returned (.bool (opB t.text))∧Below w.heap.size w w':=by
 have HR:=hQ (show opB t.text=true from by unfold opB;simp only [←Qa0,h0,h1,h2];rfl)
 go_enter Tryz.func134,Tryz.ntmps134
 go_wp2
 go_ret
 exact ⟨by rw [HR.out];rfl,(xC _ _).alloc (xA _) _⟩
theorem Qtg (t:Tok) (w:World) (h0:(t.text.toList == [43])=false) (h1:(t.text.toList == [45])=false) (h2:(t.text.toList == [42])=false) (h3:(t.text.toList == [60])=true):Calls Tryz.prog 134 #[.agg #[.int .i64 t.kind,.string t.lead,.string t.text]] w fun e w'=>e = .returned (.bool (opB t.text))∧Below w.heap.size w w':=by
 have HR:=hQ (show opB t.text=true from by unfold opB;simp only [←Qa0,h0,h1,h2,h3];rfl)
 go_enter Tryz.func134,Tryz.ntmps134
 go_wp2
 go_ret
 exact ⟨by rw [HR.out];rfl,(xC _ _).alloc (xA _) _⟩
theorem Qth (t:Tok) (w:World) (h0:(t.text.toList == [43])=false) (h1:(t.text.toList == [45])=false) (h2:(t.text.toList == [42])=false) (h3:(t.text.toList == [60])=false) (h4:(t.text.toList == [61,61])=true):Calls Tryz.prog 134 #[.agg #[.int .i64 t.kind,.string t.lead,.string t.text]] w fun e w'=>e = .returned (.bool (opB t.text))∧Below w.heap.size w w':=by
 have HR:=hQ (show opB t.text=true from by unfold opB;simp only [←Qa0,h0,h1,h2,h3,h4];rfl)
 go_enter Tryz.func134,Tryz.ntmps134
 go_wp2
 go_ret
 exact ⟨by rw [HR.out];rfl,(xC _ _).alloc (xA _) _⟩
theorem Qti (t:Tok) (w:World) (h0:(t.text.toList == [43])=false) (h1:(t.text.toList == [45])=false) (h2:(t.text.toList == [42])=false) (h3:(t.text.toList == [60])=false) (h4:(t.text.toList == [61,61])=false):Calls Tryz.prog 134 #[.agg #[.int .i64 t.kind,.string t.lead,.string t.text]] w fun e w'=>e = .returned (.bool (opB t.text))∧Below w.heap.size w w':=by
 have HR:=hQ (show opB t.text=false from by unfold opB;simp only [←Qa0,h0,h1,h2,h3,h4];rfl)
 go_enter Tryz.func134,Tryz.ntmps134
 go_wp2
 go_ret
 exact ⟨by rw [HR.out];rfl,(xC _ _).alloc (xA _) _⟩
theorem Qfm (t:Tok) (w:World):Calls Tryz.prog 134 #[.agg #[.int .i64 t.kind,.string t.lead,.string t.text]] w fun e w'=>e = .returned (.bool (opB t.text))∧Below w.heap.size w w':=by
 cases h0:(t.text.toList == [43])
 case true=>exact Qtd t w h0
 cases h1:(t.text.toList == [45])
 case true=>exact Qte t w h0 h1
 cases h2:(t.text.toList == [42])
 case true=>exact Qtf t w h0 h1 h2
 cases h3:(t.text.toList == [60])
 case true=>exact Qtg t w h0 h1 h2 h3
 cases h4:(t.text.toList == [61,61])
 case true=>exact Qth t w h0 h1 h2 h3 h4
 exact Qti t w h0 h1 h2 h3 h4
theorem Qj1 (t:Tok) (w:World) (h0:(t.text.toList == [100,101,102])=true):Calls Tryz.prog 157 #[.agg #[.int .i64 t.kind,.string t.lead,.string t.text]] w fun e w'=>e = .returned (.int .i64 (Qef t.text))∧Below w.heap.size w w':=by
 have HR:=hQ (show Qef t.text=2 from by unfold Qef;simp only [←Qa0,h0];rfl)
 go_enter Tryz.func157,Tryz.ntmps157
 go_wp2
 go_ret
 exact ⟨by rw [HR.out];rfl,(xC _ _).alloc (xA _) _⟩
theorem Qj2 (t:Tok) (w:World) (h0:(t.text.toList == [100,101,102])=false) (h1:(t.text.toList == [116,121,112,101])=true):Calls Tryz.prog 157 #[.agg #[.int .i64 t.kind,.string t.lead,.string t.text]] w fun e w'=>e = .returned (.int .i64 (Qef t.text))∧Below w.heap.size w w':=by
 have HR:=hQ (show Qef t.text=3 from by unfold Qef;simp only [←Qa0,h0,h1];rfl)
 go_enter Tryz.func157,Tryz.ntmps157
 go_wp2
 go_ret
 exact ⟨by rw [HR.out];rfl,(xC _ _).alloc (xA _) _⟩
theorem Qj3 (t:Tok) (w:World) (h0:(t.text.toList == [100,101,102])=false) (h1:(t.text.toList == [116,121,112,101])=false):Calls Tryz.prog 157 #[.agg #[.int .i64 t.kind,.string t.lead,.string t.text]] w fun e w'=>e = .returned (.int .i64 (Qef t.text))∧Below w.heap.size w w':=by
 have HR:=hQ (show Qef t.text=0 from by unfold Qef;simp only [←Qa0,h0,h1];rfl)
 go_enter Tryz.func157,Tryz.ntmps157
 go_wp2
 go_ret
 exact ⟨by rw [HR.out];rfl,(xC _ _).alloc (xA _) _⟩
theorem Qid (t:Tok) (w:World):Calls Tryz.prog 157 #[.agg #[.int .i64 t.kind,.string t.lead,.string t.text]] w fun e w'=>e = .returned (.int .i64 (Qef t.text))∧Below w.heap.size w w':=by
 cases h0:(t.text.toList == [100,101,102])
 case true=>exact Qj1 t w h0
 cases h1:(t.text.toList == [116,121,112,101])
 case true=>exact Qj2 t w h0 h1
 exact Qj3 t w h0 h1
theorem Qfw (f:FuncId) (w:World):(binOp .neq 129 (.func (.func f) #[] #[]) .nilFunc).run Tryz.prog w = .ok (.bool true) w:=by kernel_rfl
theorem Qvr (w:World):(binOp .neq 129 .nilFunc .nilFunc).run Tryz.prog w = .ok (.bool false) w:=by kernel_rfl
theorem Zea (s:ByteArray) (k l m:Int) (se co:Bool) (t:Tok) (w:World):Calls Tryz.prog 135 #[.agg #[.string s,.nilFunc,.int .i64 k,.int .i64 l,.int .i64 m,.bool se,.bool co],.agg #[.int .i64 t.kind,.string t.lead,.string t.text]] w fun e w'=>e = .returned (.bool (Qee ⟨s,0,k,l,m,se,co⟩ t))∧Below w.heap.size w w':=by
 have HR:=hQ (show Qee ⟨s,0,k,l,m,se,co⟩ t=(s.toList==t.text.toList) from by unfold Qee;rw [xO rfl];unfold is;rw [ByteArray.toList_eq,ByteArray.toList_eq,Bool.eq_iff_iff];simp only [beq_iff_eq];exact eq_comm);have hn:=Qvr
 go_enter Tryz.func135,Tryz.ntmps135
 go_wp2
 go_ret
 exact ⟨by rw [HR.out];rfl,((xC _ _).alloc (xA _) _).alloc (by simp) _⟩
theorem Zeb (s:ByteArray) (k l m:Int) (se co:Bool) (t:Tok) (w:World):Calls Tryz.prog 135 #[.agg #[.string s,.func (.func 124) #[] #[],.int .i64 k,.int .i64 l,.int .i64 m,.bool se,.bool co],.agg #[.int .i64 t.kind,.string t.lead,.string t.text]] w fun e w'=>e = .returned (.bool (Qee ⟨s,1,k,l,m,se,co⟩ t))∧Below w.heap.size w w':=by
 have HR:=hQ (show Qee ⟨s,1,k,l,m,se,co⟩ t=Qba 1 t.kind t.text from by unfold Qee;rw [xN (fun e:(1:Nat)=0=>absurd e (by decide))]);have hn:=Qfw
 go_enter Tryz.func135,Tryz.ntmps135
 go_wp2_with (go_at_call 124;refine (Qoc t _).mono ?_;rintro e w1 ⟨rfl,hb⟩;have HB:=hQ hb;clear hb)
 go_ret
 exact ⟨by rw [HR.out];rfl,(((xC _ _).alloc (xA _) _).alloc (by simp) _).trans (HB.out.mono (by simp;omega))⟩
theorem Zec (s:ByteArray) (k l m:Int) (se co:Bool) (t:Tok) (w:World):Calls Tryz.prog 135 #[.agg #[.string s,.func (.func 126) #[] #[],.int .i64 k,.int .i64 l,.int .i64 m,.bool se,.bool co],.agg #[.int .i64 t.kind,.string t.lead,.string t.text]] w fun e w'=>e = .returned (.bool (Qee ⟨s,2,k,l,m,se,co⟩ t))∧Below w.heap.size w w':=by
 have HR:=hQ (show Qee ⟨s,2,k,l,m,se,co⟩ t=Qba 2 t.kind t.text from by unfold Qee;rw [xN (fun e:(2:Nat)=0=>absurd e (by decide))]);have hn:=Qfw
 go_enter Tryz.func135,Tryz.ntmps135
 go_wp2_with (go_at_call 126;refine (Qic t _).mono ?_;rintro e w1 ⟨rfl,hb⟩;have HB:=hQ hb;clear hb)
 go_ret
 exact ⟨by rw [HR.out];rfl,(((xC _ _).alloc (xA _) _).alloc (by simp) _).trans (HB.out.mono (by simp;omega))⟩
theorem Zed (s:ByteArray) (k l m:Int) (se co:Bool) (t:Tok) (w:World):Calls Tryz.prog 135 #[.agg #[.string s,.func (.func 128) #[] #[],.int .i64 k,.int .i64 l,.int .i64 m,.bool se,.bool co],.agg #[.int .i64 t.kind,.string t.lead,.string t.text]] w fun e w'=>e = .returned (.bool (Qee ⟨s,3,k,l,m,se,co⟩ t))∧Below w.heap.size w w':=by
 have HR:=hQ (show Qee ⟨s,3,k,l,m,se,co⟩ t=Qba 3 t.kind t.text from by unfold Qee;rw [xN (fun e:(3:Nat)=0=>absurd e (by decide))]);have hn:=Qfw
 go_enter Tryz.func135,Tryz.ntmps135
 go_wp2_with (go_at_call 128;refine (Qgk t _).mono ?_;rintro e w1 ⟨rfl,hb⟩;have HB:=hQ hb;clear hb)
 go_ret
 exact ⟨by rw [HR.out];rfl,(((xC _ _).alloc (xA _) _).alloc (by simp) _).trans (HB.out.mono (by simp;omega))⟩
theorem Zee (s:ByteArray) (k l m:Int) (se co:Bool) (t:Tok) (w:World):Calls Tryz.prog 135 #[.agg #[.string s,.func (.func 156) #[] #[],.int .i64 k,.int .i64 l,.int .i64 m,.bool se,.bool co],.agg #[.int .i64 t.kind,.string t.lead,.string t.text]] w fun e w'=>e = .returned (.bool (Qee ⟨s,4,k,l,m,se,co⟩ t))∧Below w.heap.size w w':=by
 have HR:=hQ (show Qee ⟨s,4,k,l,m,se,co⟩ t=Qba 4 t.kind t.text from by unfold Qee;rw [xN (fun e:(4:Nat)=0=>absurd e (by decide))]);have hn:=Qfw
 go_enter Tryz.func135,Tryz.ntmps135
 go_wp2_with (go_at_call 156;refine (Qlx t _).mono ?_;rintro e w1 ⟨rfl,hb⟩;have HB:=hQ hb;clear hb)
 go_ret
 exact ⟨by rw [HR.out];rfl,(((xC _ _).alloc (xA _) _).alloc (by simp) _).trans (HB.out.mono (by simp;omega))⟩
theorem Zef (s:ByteArray) (k l m:Int) (se co:Bool) (t:Tok) (w:World):Calls Tryz.prog 135 #[.agg #[.string s,.func (.func 154) #[] #[],.int .i64 k,.int .i64 l,.int .i64 m,.bool se,.bool co],.agg #[.int .i64 t.kind,.string t.lead,.string t.text]] w fun e w'=>e = .returned (.bool (Qee ⟨s,5,k,l,m,se,co⟩ t))∧Below w.heap.size w w':=by
 have HR:=hQ (show Qee ⟨s,5,k,l,m,se,co⟩ t=Qba 5 t.kind t.text from by unfold Qee;rw [xN (fun e:(5:Nat)=0=>absurd e (by decide))]);have hn:=Qfw
 go_enter Tryz.func135,Tryz.ntmps135
 go_wp2_with (go_at_call 154;refine (Qlv t _).mono ?_;rintro e w1 ⟨rfl,hb⟩;have HB:=hQ hb;clear hb)
 go_ret
 exact ⟨by rw [HR.out];rfl,(((xC _ _).alloc (xA _) _).alloc (by simp) _).trans (HB.out.mono (by simp;omega))⟩
theorem Zeg (s:ByteArray) (k l m:Int) (se co:Bool) (t:Tok) (w:World):Calls Tryz.prog 135 #[.agg #[.string s,.func (.func 155) #[] #[],.int .i64 k,.int .i64 l,.int .i64 m,.bool se,.bool co],.agg #[.int .i64 t.kind,.string t.lead,.string t.text]] w fun e w'=>e = .returned (.bool (Qee ⟨s,6,k,l,m,se,co⟩ t))∧Below w.heap.size w w':=by
 have HR:=hQ (show Qee ⟨s,6,k,l,m,se,co⟩ t=Qba 6 t.kind t.text from by unfold Qee;rw [xN (fun e:(6:Nat)=0=>absurd e (by decide))]);have hn:=Qfw
 go_enter Tryz.func135,Tryz.ntmps135
 go_wp2_with (go_at_call 155;refine (Qlw t _).mono ?_;rintro e w1 ⟨rfl,hb⟩;have HB:=hQ hb;clear hb)
 go_ret
 exact ⟨by rw [HR.out];rfl,(((xC _ _).alloc (xA _) _).alloc (by simp) _).trans (HB.out.mono (by simp;omega))⟩
theorem Zeh (s:ByteArray) (k l m:Int) (se co:Bool) (t:Tok) (w:World):Calls Tryz.prog 135 #[.agg #[.string s,.func (.func 134) #[] #[],.int .i64 k,.int .i64 l,.int .i64 m,.bool se,.bool co],.agg #[.int .i64 t.kind,.string t.lead,.string t.text]] w fun e w'=>e = .returned (.bool (Qee ⟨s,7,k,l,m,se,co⟩ t))∧Below w.heap.size w w':=by
 have HR:=hQ (show Qee ⟨s,7,k,l,m,se,co⟩ t=opB t.text from by unfold Qee;rw [xN (fun e:(7:Nat)=0=>absurd e (by decide))];rfl);have hn:=Qfw
 go_enter Tryz.func135,Tryz.ntmps135
 go_wp2_with (go_at_call 134;refine (Qfm t _).mono ?_;rintro e w1 ⟨rfl,hb⟩;have HB:=hQ hb;clear hb)
 go_ret
 exact ⟨by rw [HR.out];rfl,(((xC _ _).alloc (xA _) _).alloc (by simp) _).trans (HB.out.mono (by simp;omega))⟩
theorem Qrq (x:Part) (hx:x.nm≤7) (t:Tok) (w:World):Calls Tryz.prog 135 #[.agg #[.string x.word,fnV x.nm,.int .i64 x.kids,.int .i64 x.least,.int .i64 x.most,.bool x.series,.bool x.commas],.agg #[.int .i64 t.kind,.string t.lead,.string t.text]] w fun e w'=>e = .returned (.bool (Qee x t))∧Below w.heap.size w w':=by
 obtain ⟨s,n,k,l,m,se,co⟩:=x
 match n,hx with
 | 0,_=>exact Zea s k l m se co t w
 | 1,_=>exact Zeb s k l m se co t w
 | 2,_=>exact Zec s k l m se co t w
 | 3,_=>exact Zed s k l m se co t w
 | 4,_=>exact Zee s k l m se co t w
 | 5,_=>exact Zef s k l m se co t w
 | 6,_=>exact Zeg s k l m se co t w
 | 7,_=>exact Zeh s k l m se co t w
 | n+8,h=>exact absurd h (by show ¬ n+8≤7;omega)
end Go.Proofs.YtfjpemdejoejbaaGreat
