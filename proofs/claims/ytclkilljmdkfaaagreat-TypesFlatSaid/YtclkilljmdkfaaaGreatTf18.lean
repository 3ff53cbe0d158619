/- Part 18 -/
import Derived.Test.YtclkilljmdkfaaaGreatTf17
import Derived.IntWalk
import Derived.WalkSmall
set_option maxRecDepth 100000
set_option maxHeartbeats 4000000
namespace Go.Proofs.YtclkilljmdkfaaaGreat
open Go.RowKit
def LeadAt (s:ByteArray) (i k:Nat):Prop:=i≤k∧k≤s.size∧(SkipAt s i k false∨(k=s.size∧Qan s i=k))
def InnerAt (s:ByteArray) (i j k:Nat):Prop:=j≤k∧SkipAt s i k true∧(k=j→∃ h:k<s.size,s[k].toNat=35)
theorem Qp1 {a b c d:Int} (h:a=b) (h':c=d):Ending.returned (.tuple #[.int .i64 a,.int .i64 c]) = .returned (.tuple #[.int .i64 b,.int .i64 d]):=by rw [h,h']
theorem LeadAt.state {s:ByteArray} {i k:Nat} (h:LeadAt s i k) (hk:k<s.size):SkipAt s i k false:=by
 obtain ⟨_,_,h | h⟩:=h
 ·exact h
 ·omega
theorem LeadAt.done {s:ByteArray} {i k:Nat} (h:LeadAt s i k) (hk:¬ k<s.size):Qan s i=k∧Qjm s i = -1:=by
 obtain ⟨_,_,h|⟨rfl,h⟩⟩:=h
 ·exact ⟨(h.done hk).1,Qiu (h.done hk) (.inl rfl)⟩
 ·exact ⟨h,Qiu ⟨h,rfl⟩ (.inr hk)⟩
theorem LeadAt.white {s:ByteArray} {i k:Nat} (h:LeadAt s i k) (hk:k<s.size) (hw:Qeb s[k].toNat=true):LeadAt s i (k+1):=by
 have h1:=(h.state hk).white hk hw
 exact ⟨h1.1,h1.2.1,.inl h1⟩
theorem LeadAt.other {s:ByteArray} {i k:Nat} (h:LeadAt s i k) (hk:k<s.size) (hw:Qeb s[k].toNat=false) (hc:s[k].toNat≠35):Qan s i=k∧Qjm s i = -1:=by
 have h1:=(h.state hk).other hk hw hc
 exact ⟨h1.1,Qiu h1 (.inl rfl)⟩
theorem LeadAt.inner {s:ByteArray} {i k:Nat} (h:LeadAt s i k) (hk:k<s.size) (hc:s[k].toNat=35):InnerAt s i k k :=
 ⟨xA _,(h.state hk).begun hk hc,fun _=>⟨hk,hc⟩⟩
theorem InnerAt.next {s:ByteArray} {i j k:Nat} (h:InnerAt s i j k) (hk:k<s.size) (ha:Qaq s[k].toNat=true) (hc:s[k].toNat≠10):InnerAt s i j (k+1):=by
 have h1:=h.2.1.inside hk ha
 have h2:(s[k].toNat != 10)=true:=by simpa using hc
 rw [h2] at h1
 have:=h.1
 exact ⟨by omega,h1,by omega⟩
theorem InnerAt.bad {s:ByteArray} {i j k:Nat} (h:InnerAt s i j k) (hk:k<s.size) (ha:Qaq s[k].toNat=false):Qan s i=k∧Qjm s i=k:=by
 have h1:=h.2.1.bad hk ha
 exact ⟨h1.1,Qqq h1 hk⟩
theorem InnerAt.over {s:ByteArray} {i j k:Nat} (h:InnerAt s i j k) (hk:¬ k<s.size):LeadAt s i k∧j<k:=by
 have h1:=h.2.1
 refine ⟨⟨h1.1,h1.2.1,.inr ⟨by have:=h1.2.1;omega,(h1.done hk).1⟩⟩,?_⟩
 rcases Nat.lt_or_ge j k with h2 | h2
 ·exact h2
 ·have:=h.1
  obtain ⟨h3,_⟩:=h.2.2 (by omega)
  omega
theorem InnerAt.ended {s:ByteArray} {i j k:Nat} (h:InnerAt s i j k) (hk:k<s.size) (hc:s[k].toNat=10):LeadAt s i k∧j<k:=by
 have h1:=h.2.1
 refine ⟨⟨h1.1,h1.2.1,.inl (h1.ended hk hc)⟩,?_⟩
 rcases Nat.lt_or_ge j k with h2 | h2
 ·exact h2
 ·have:=h.1
  obtain ⟨_,h4⟩:=h.2.2 (by omega)
  omega
theorem Qu4 (s:ByteArray) (i:Nat) (w:World) (hi:i≤s.size) (hs:s.size≤maxLen) :
  Calls Tryz.prog 205 #[.string s,.int .i64 i] w fun e w'=>e = .returned (.tuple #[.int .i64 (((Qan s i:Nat):Int)-(i:Int)),.int .i64 (Qjm s i)])∧w=w':=by
 unfold maxLen at hs
 have hst:=hQ (show LeadAt s i i from ⟨xA _,hi,.inl (SkipAt.start s i hi)⟩)
 go_enter Tryz.func205,Tryz.ntmps205
 go_wp2
 go_loop [6] (fun a=>∃ (k:Nat),i≤k∧k≤s.size∧a = .int .i64 k∧LeadAt s i k) (fun a=>s.size-(intOf a).toNat)
 case atStart=>exact ⟨i,xA _,hi,rfl,hst.out⟩
 case round =>
  obtain ⟨k,hik,hk,rfl,hrel⟩:=hrel
  have HR:=hQ hrel
  clear hrel hst
  by_cases hlt:k<s.size
  ·cases hw:Qeb s[k].toNat
   ·by_cases hc:s[k].toNat=35
    ·have hc':((s[k].toNat:Int)==35)=true:=by simp [hc]
     have HC:=hQ hc
     clear hc
     go_wp2_with (first | (go_at_call 198;refine (Qa5 _ _).mono ?_;rintro e w' ⟨rfl,rfl⟩) | (go_at_call 175;refine (Qdq _ _).mono ?_;rintro e w' ⟨rfl,rfl⟩))
     clear hc' hw
     go_loop [6] (fun a=>∃ (k':Nat),i≤k'∧k'≤s.size∧a = .int .i64 k'∧InnerAt s i k k') (fun a=>s.size-(intOf a).toNat)
     case atStart=>exact ⟨k,hik,hk,rfl,HR.out.inner hlt HC.out⟩
     case round =>
      obtain ⟨k',hik',hk',rfl,hrel⟩:=hrel
      have HI:=hQ hrel
      clear hrel
      by_cases hlt':k'<s.size
      ·by_cases h10:s[k'].toNat=10
       ·have h10':((s[k'].toNat:Int) != 10)=false:=by simp [h10]
        have H10:=hQ h10
        clear h10
        go_wp2
        have HO:=hQ (HI.out.ended hlt' H10.out)
        go_round
        case rel=>exact ⟨k',hik',hk',rfl,HO.out.1⟩
        case measure=>have:=HO.out.2;simp [intOf];omega
       ·have h10':((s[k'].toNat:Int) != 10)=true:=by simp;omega
        have H10:=hQ h10
        clear h10
        cases ha:Qaq s[k'].toNat
        ·go_wp2_with (first | (go_at_call 198;refine (Qa5 _ _).mono ?_;rintro e w' ⟨rfl,rfl⟩) | (go_at_call 175;refine (Qdq _ _).mono ?_;rintro e w' ⟨rfl,rfl⟩))
         go_ret2
         obtain ⟨h1,h2⟩:=HI.out.bad hlt' ha
         exact ⟨Qp1 (by rw [h1]) (by rw [h2]),rfl⟩
        ·go_wp2_with (first | (go_at_call 198;refine (Qa5 _ _).mono ?_;rintro e w' ⟨rfl,rfl⟩) | (go_at_call 175;refine (Qdq _ _).mono ?_;rintro e w' ⟨rfl,rfl⟩))
         go_round
         case rel=>exact ⟨k'+1,by omega,by omega,by go_num,HI.out.next hlt' ha H10.out⟩
         case measure=>simp [intOf];omega
      ·go_wp2
       have HO:=hQ (HI.out.over hlt')
       go_round
       case rel=>exact ⟨k',hik',hk',rfl,HO.out.1⟩
       case measure=>have:=HO.out.2;simp [intOf];omega
    ·have hc':((s[k].toNat:Int)==35)=false:=by simp;omega
     have HC:=hQ hc
     clear hc
     go_wp2_with (first | (go_at_call 198;refine (Qa5 _ _).mono ?_;rintro e w' ⟨rfl,rfl⟩) | (go_at_call 175;refine (Qdq _ _).mono ?_;rintro e w' ⟨rfl,rfl⟩))
     go_ret2
     obtain ⟨h1,h2⟩:=HR.out.other hlt hw HC.out
     exact ⟨Qp1 (by rw [h1]) (by rw [h2]),rfl⟩
   ·go_wp2_with (first | (go_at_call 198;refine (Qa5 _ _).mono ?_;rintro e w' ⟨rfl,rfl⟩) | (go_at_call 175;refine (Qdq _ _).mono ?_;rintro e w' ⟨rfl,rfl⟩))
    go_round
    case rel=>exact ⟨k+1,by omega,by omega,by go_num,HR.out.white hlt hw⟩
    case measure=>simp [intOf];omega
  ·go_wp2
   go_ret2
   obtain ⟨h1,h2⟩:=HR.out.done hlt
   exact ⟨Qp1 (by rw [h1]) (by rw [h2]),rfl⟩
theorem Qmx (s:ByteArray) (w:World) (hs:s.size≤maxLen) :
  Calls Tryz.prog 205 #[.string s,.int .i64 0] w fun e w'=>e = .returned (.tuple #[.int .i64 ((Qan s 0:Nat):Int),.int .i64 (Qjm s 0)])∧w=w':=by
 have h:=Qu4 s 0 w (xZ _) hs
 simpa using h
theorem Zaf {s:ByteArray} (h:Qan s 0=s.size):Qqr false (suf s 0)=Qc6 s 0:=by
 refine Qv7 false (suf s 0) ?_
 rw [Qb0]
 unfold Qan at h
 omega
def OpenAt (s:ByteArray) (k:Nat) (o:Bool):Prop:=k≤s.size∧Qqr false (suf s 0)=Qqr o (suf s k)
theorem OpenAt.next {s:ByteArray} {k:Nat} {o:Bool} (h:OpenAt s k o) (hk:k<s.size):OpenAt s (k+1) (if s[k].toNat=10 then false else if s[k].toNat=35 then true else o):=by
 refine ⟨by omega,?_⟩
 rw [h.2,Qdd s k hk]
 rfl
theorem OpenAt.done {s:ByteArray} {k:Nat} {o:Bool} (h:OpenAt s k o) (hk:¬ k<s.size):Qqr false (suf s 0)=o:=by
 rw [h.2,Qky s k (by omega)]
 rfl
theorem Qmy (s:ByteArray) (fin:Bool) (w:World) (hs:s.size≤maxLen) :
  Calls Tryz.prog 181 #[.string s,.bool fin] w fun e w'=>e = .returned (.bool (Qf4 s fin))∧w=w':=by
 have h1:=Qgg s 0 (xZ _)
 have HS:=hQ hs
 unfold maxLen at hs
 have HT:=hQ (show Qf4 s fin=((Qan s 0==s.size) && (fin || !Qc6 s 0)) from rfl)
 by_cases hz:Qan s 0=s.size
 ·have HZ:=hQ hz
  have hb:Qjm s 0 = -1:=Qiu ⟨hz,rfl⟩ (.inr (by omega))
  have hz':((Qan s 0:Nat):Int)=(s.size:Int):=by omega
  clear hz
  cases fin
  ·go_enter Tryz.func181,Tryz.ntmps181
   go_wp2_with (go_at_call 205;refine (Qmx s _ HS.out).mono ?_;rintro e w' ⟨rfl,rfl⟩)
   go_loop [7,8] (fun a b=>∃ (k:Nat) (o:Bool),k≤s.size∧b = .int .i64 k∧a = .bool o∧OpenAt s k o) (fun _ b=>s.size-(intOf b).toNat)
   case atStart=>exact ⟨0,false,xZ _,rfl,rfl,xZ _,rfl⟩
   case round =>
    obtain ⟨k,o,hk,rfl,rfl,hrel⟩:=hrel
    have HR:=hQ hrel
    clear hrel
    by_cases hlt:k<s.size
    ·by_cases h10:s[k].toNat=10
     ·have h10':((s[k].toNat:Int)==10)=true:=by simp [h10]
      have h35':((s[k].toNat:Int)==35)=false:=by simp [h10]
      have H10:=hQ h10
      clear h10
      go_wp2
      go_round
      case rel=>exact ⟨k+1,false,by omega,by go_num,rfl,by have:=HR.out.next hlt;rwa [xO H10.out] at this⟩
      case measure=>simp [intOf];omega
     ·have h10':((s[k].toNat:Int)==10)=false:=by simp;omega
      have H10:=hQ h10
      clear h10
      by_cases h35:s[k].toNat=35
      ·have h35':((s[k].toNat:Int)==35)=true:=by simp [h35]
       have H35:=hQ h35
       clear h35
       go_wp2
       go_round
       case rel=>exact ⟨k+1,true,by omega,by go_num,rfl,by have:=HR.out.next hlt;rwa [xN H10.out,xO H35.out] at this⟩
       case measure=>simp [intOf];omega
      ·have h35':((s[k].toNat:Int)==35)=false:=by simp;omega
       have H35:=hQ h35
       clear h35
       go_wp2
       go_round
       case rel=>exact ⟨k+1,o,by omega,by go_num,rfl,by have:=HR.out.next hlt;rwa [xN H10.out,xN H35.out] at this⟩
       case measure=>simp [intOf];omega
    ·go_wp2
     go_ret
     exact ⟨Qai (by rw [HT.out,←Zaf HZ.out,HR.out.done hlt,HZ.out];simp),rfl⟩
  ·go_enter Tryz.func181,Tryz.ntmps181
   go_wp2_with (go_at_call 205;refine (Qmx s _ HS.out).mono ?_;rintro e w' ⟨rfl,rfl⟩)
   go_ret
   exact ⟨Qai (by rw [HT.out,HZ.out];simp),rfl⟩
 ·have hz':((Qan s 0:Nat):Int)<(s.size:Int):=by omega
  have HZ:=hQ hz
  clear hz
  by_cases hb:0≤Qjm s 0
  all_goals
   go_enter Tryz.func181,Tryz.ntmps181
   go_wp2_with (go_at_call 205;refine (Qmx s _ HS.out).mono ?_;rintro e w' ⟨rfl,rfl⟩)
   go_ret
   exact ⟨Qai (by rw [HT.out,beq_eq_false_iff_ne.2 HZ.out];rfl),rfl⟩
def Qqo:List UInt8→Nat
 | []=>0
 | c :: r=>if c=46 then 0 else Qqo r+1
theorem Zag:(l:List UInt8)→(i:Nat)→(∀ j,j<i→∀ c,l[j]? = some c→c≠46)→l[i]? = some 46→Qqo l=i
 | [],i,_,h=>by simp at h
 | c :: r,0,_,h=>by simp at h;rw [Qqo,xO h]
 | c :: r,i+1,hn,h=>by
  rw [Qqo,xN (hn 0 (by omega) c rfl),Zag r i (fun j hj c hc=>hn (j+1) (by omega) c (by simpa using hc)) (by simpa using h)]
theorem Qrg:(l:List UInt8)→(∀ (j:Nat) (c:UInt8),l[j]? = some c→c≠46)→Qqo l=l.length
 | [],_=>rfl
 | c :: r,hn=>by rw [Qqo,xN (hn 0 c rfl),Qrg r (fun j c hc=>hn (j+1) c (by simpa using hc)),xD]
def Zg9 (s:ByteArray):Nat:=Qqo s.data.toList
def Qj1 (s:ByteArray):ByteArray × ByteArray × Bool:=if Zg9 s<s.size then (s.extract 0 (Zg9 s),s.extract (Zg9 s+1) s.size,true) else (⟨#[]⟩,s,false)
def Zah (s:ByteArray) (k:Nat):Prop:=∀ j,j<k→∀ c,s.data.toList[j]? = some c→c≠46
theorem Qxg {s:ByteArray} {k:Nat} (h:Zah s k) {hk:k<s.size} (hc:s[k]≠46):Zah s (k+1):=fun j hj c hcj=>by
 by_cases e:j=k
 ·subst e
  have:s.data.toList[j]? = some s[j]:=by rw [xF (by simpa using hk)];rfl
  rw [this] at hcj
  injection hcj with hcj
  rw [←hcj]
  exact hc
 ·exact h j (by omega) c hcj
theorem Zex {s:ByteArray} {k:Nat} (h:Zah s k) {hk:k<s.size} (hc:s[k] = 46):Zg9 s=k:=Zag _ k h (by rw [xF (by simpa using hk)];exact congrArg some hc)
theorem Zey {s:ByteArray} (h:Zah s s.size):Zg9 s=s.size:=by
 have:=Qrg s.data.toList (fun j c hc=>h j (by have:=(xP.1 hc).1;simpa using this) c hc)
 unfold Zg9
 simpa using this
theorem Qok (s:ByteArray) (w:World) (hs:s.size≤maxLen):Calls Tryz.prog 174 #[.string s] w fun e w'=>e = .returned (.tuple #[.string (Qj1 s).1,.string (Qj1 s).2.1,.bool (Qj1 s).2.2])∧∃ n,w'=w.drewN n:=by
 unfold maxLen at hs
 go_enter Tryz.func174,Tryz.ntmps174
 go_wp2
 go_loop [8] (fun i=>∃ k:Nat,i = .int .i64 k∧k≤s.size∧Hid (Zah s k)) (fun i=>s.size-(intOf i).toNat)
 case atStart=>exact ⟨0,rfl,xZ _,hQ fun j hj=>absurd hj (by omega)⟩
 case round =>
  obtain ⟨k,rfl,hk,hn⟩:=hrel
  by_cases hlt:k<s.size
  ·have hk1:IntKind.i64.wrap ((k:Int)+1)=(k:Int)+1:=IntWalk.i64_in _ (by omega)
   by_cases hc:s[k] = 46
   ·have d1:((s[k].toNat:Int)==46)=true:=by rw [hc];rfl
    have d2:(s[k].toNat:Int)=46:=by rw [hc];rfl
    have HV:=hQ (show Qj1 s=(s.extract 0 k,s.extract (k+1) s.size,true) from by unfold Qj1;rw [Zex hn.out hc,xO hlt])
    clear hn hc
    go_wp2
    go_quiet (fail)
    go_wp2
    go_ret3
    rw [HV.out]
    exact ⟨rfl,_,rfl⟩
   ·have d1:((s[k].toNat:Int)==46)=false:=by
     rw [beq_eq_false_iff_ne]
     intro e
     exact hc (UInt8.toNat_inj.1 (by show s[k].toNat=46;omega))
    have HN:=hQ (Qxg hn.out hc)
    clear hn hc
    go_wp2
    go_round
    case rel=>exact ⟨k+1,by go_num,by omega,HN⟩
    case measure=>simp [intOf];omega
  ·obtain rfl:k=s.size:=by omega
   have HV:=hQ (show Qj1 s=(⟨#[]⟩,s,false) from by unfold Qj1;rw [Zey hn.out,xN (Nat.lt_irrefl _)])
   clear hn
   go_wp2
   go_ret3
   rw [HV.out]
   exact ⟨rfl,0,rfl⟩
end Go.Proofs.YtclkilljmdkfaaaGreat
