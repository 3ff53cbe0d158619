/- Part 2 -/
import Derived.Test.YtfjpemdejoejbaaGreatSg1
import Derived.Test.YtfjpemdejoejbaaGreatRows
import Derived.WalkKit
import Derived.WalkSpells
import Derived.WalkLawsBesides
import Derived.Lib.Hide
import Derived.Deep.LoopGhost
import Derived.Deep.QuietTactic
import Derived.BigQuiet
set_option maxRecDepth 100000
set_option maxHeartbeats 4000000
namespace Go.Proofs.YtfjpemdejoejbaaGreat
open Go.RowKit
theorem Qah {a b:Bool} (h:a=b):Ending.returned (.bool a) = .returned (.bool b):=by rw [h]
theorem Qg9 (c:Int) (w:World):Calls Tryz.prog 115 #[.int .u8 c] w fun e w'=>e = .returned (.bool (Qd9 c))∧w=w':=by
 go_enter Tryz.func115,Tryz.ntmps115
 go_wp2
 all_goals
  go_ret
  exact ⟨Qah (by simp_all [Qd9];try omega),rfl⟩
theorem Qfv (c:Int) (w:World):Calls Tryz.prog 150 #[.int .u8 c] w fun e w'=>e = .returned (.bool (Qb1 c))∧w=w':=by
 go_enter Tryz.func150,Tryz.ntmps150
 go_wp2
 all_goals
  go_ret
  exact ⟨Qah (by simp_all [Qb1];try omega),rfl⟩
theorem Qdl (c:Int) (w:World):Calls Tryz.prog 118 #[.int .u8 c] w fun e w'=>e = .returned (.bool (Qb2 c))∧w=w':=by
 go_enter Tryz.func118,Tryz.ntmps118
 go_wp2
 all_goals
  go_ret
  exact ⟨Qah (by simp_all [Qb2];try omega),rfl⟩
theorem Qbx (c:Int) (w:World):Calls Tryz.prog 116 #[.int .u8 c] w fun e w'=>e = .returned (.bool (Qav c))∧w=w':=by
 go_enter Tryz.func116,Tryz.ntmps116
 go_wp2_with (first | (go_at_call 150;refine (Qfv _ _).mono ?_;rintro e w' ⟨rfl,rfl⟩))
 all_goals
  go_ret
  exact ⟨Qah (by simp_all [Qav,Qh5];try omega),rfl⟩
theorem Qcu (c:Int) (w:World):Calls Tryz.prog 114 #[.int .u8 c] w fun e w'=>e = .returned (.bool (Qap c))∧w=w':=by
 go_enter Tryz.func114,Tryz.ntmps114
 go_wp2_with (first | (go_at_call 115;refine (Qg9 _ _).mono ?_;rintro e w' ⟨rfl,rfl⟩))
 all_goals
  go_ret
  exact ⟨Qah (by simp_all [Qap];try omega),rfl⟩
theorem Qdm (c:Int) (w:World):Calls Tryz.prog 137 #[.int .u8 c] w fun e w'=>e = .returned (.bool (Qd9 c))∧w=w':=by
 go_enter Tryz.func137,Tryz.ntmps137
 go_wp2
 all_goals
  go_ret
  exact ⟨Qah (by simp_all [Qd9];try omega),rfl⟩
theorem Qax (c:Int) (w:World):Calls Tryz.prog 164 #[.int .u8 c] w fun e w'=>e = .returned (.bool (Qb1 c))∧w=w':=by
 go_enter Tryz.func164,Tryz.ntmps164
 go_wp2
 all_goals
  go_ret
  exact ⟨Qah (by simp_all [Qb1];try omega),rfl⟩
theorem Qbc (c:Int) (w:World):Calls Tryz.prog 163 #[.int .u8 c] w fun e w'=>e = .returned (.bool (Qh5 c))∧w=w':=by
 go_enter Tryz.func163,Tryz.ntmps163
 go_wp2
 all_goals
  go_ret
  exact ⟨Qah (by simp_all [Qh5];try omega),rfl⟩
theorem Qb7 (c:Int) (w:World):Calls Tryz.prog 162 #[.int .u8 c] w fun e w'=>e = .returned (.bool (Qb2 c))∧w=w':=by
 go_enter Tryz.func162,Tryz.ntmps162
 go_wp2
 all_goals
  go_ret
  exact ⟨Qah (by simp_all [Qb2];try omega),rfl⟩
theorem Qbi (c:Int) (w:World):Calls Tryz.prog 161 #[.int .u8 c] w fun e w'=>e = .returned (.bool (Qf7 c))∧w=w':=by
 go_enter Tryz.func161,Tryz.ntmps161
 go_wp2
 all_goals
  go_ret
  exact ⟨Qah (by simp_all [Qf7];try omega),rfl⟩
theorem Qa5 (c:Int) (w:World):Calls Tryz.prog 160 #[.int .u8 c] w fun e w'=>e = .returned (.bool (Qap c))∧w=w':=by
 go_enter Tryz.func160,Tryz.ntmps160
 go_wp2_with (first | (go_at_call 137;refine (Qdm _ _).mono ?_;rintro e w' ⟨rfl,rfl⟩) | (go_at_call 161;refine (Qbi _ _).mono ?_;rintro e w' ⟨rfl,rfl⟩))
 all_goals
  go_ret
  exact ⟨Qah (by simp_all [Qia]),rfl⟩
theorem Qe3 (c:Int) (w:World):Calls Tryz.prog 174 #[.int .u8 c] w fun e w'=>e = .returned (.bool (Qh9 c))∧w=w':=by
 go_enter Tryz.func174,Tryz.ntmps174
 go_wp2_with (first | (go_at_call 164;refine (Qax _ _).mono ?_;rintro e w' ⟨rfl,rfl⟩) | (go_at_call 163;refine (Qbc _ _).mono ?_;rintro e w' ⟨rfl,rfl⟩) | (go_at_call 162;refine (Qb7 _ _).mono ?_;rintro e w' ⟨rfl,rfl⟩))
 all_goals
  go_ret
  exact ⟨Qah (by simp_all [Qh9,Qav];try omega),rfl⟩
theorem Qr1 {a b:Int} {c d:Bool} (h:a=b) (h':c=d):Ending.returned (.tuple #[.int .i64 a,.bool c]) = .returned (.tuple #[.int .i64 b,.bool d]):=by rw [h,h']
theorem Zfe (n:Nat):(n != 10)=((n:Int) != 10):=by rw [Bool.eq_iff_iff];simp;omega
theorem Qos (s:ByteArray) (i:Nat) (w:World) (hi:i≤s.size) (hs:s.size≤maxLen) :
  Calls Tryz.prog 81 #[.string s,.int .i64 i] w fun e w'=>e = .returned (.tuple #[.int .i64 (Qal s i:Nat),.bool (Qc2 s i)])∧w=w':=by
 unfold maxLen at hs;have hst:=hQ (SkipAt.start s i hi)
 go_enter Tryz.func81,Tryz.ntmps81
 go_wp2
 go_step3
 go_wp2
 go_step3
 go_wp2
 go_loop [1,5] (fun a b=>∃ (k:Nat) (o:Bool),k≤s.size∧a = .int .i64 k∧b = .bool o∧SkipAt s i k o) (fun a _=>s.size-(intOf a).toNat)
 case atStart=>exact ⟨i,false,hi,rfl,rfl,hst.out⟩
 case round =>
  obtain ⟨k,o,hk,rfl,rfl,hrel⟩:=hrel;have HR:=hQ hrel;clear hrel hst
  by_cases hlt:k<s.size
  ·cases ha:Qap s[k].toNat
   ·go_wp2_with (first | (go_at_call 114;refine (Qcu _ _).mono ?_;rintro e w' ⟨rfl,rfl⟩) | (go_at_call 115;refine (Qg9 _ _).mono ?_;rintro e w' ⟨rfl,rfl⟩))
    try rw [Exit.noGoto_ret]
    go_ret2
    obtain ⟨h1,h2⟩:=HR.out.bad hlt ha;exact ⟨Qr1 (by rw [h1]) (by rw [h2]),rfl⟩
   ·cases o
    ·by_cases hc:s[k].toNat=35
     ·have hc':((s[k].toNat:Int)==35)=true:=by simp [hc]
      have HC:=hQ hc;clear hc;go_wp2_with (first | (go_at_call 114;refine (Qcu _ _).mono ?_;rintro e w' ⟨rfl,rfl⟩) | (go_at_call 115;refine (Qg9 _ _).mono ?_;rintro e w' ⟨rfl,rfl⟩))
      go_round
      case rel=>exact ⟨k+1,true,by omega,by go_num,rfl,HR.out.opens hlt HC.out⟩
      case measure=>simp [intOf];omega
     ·have hc':((s[k].toNat:Int)==35)=false:=by simp;omega
      have HC:=hQ hc;clear hc
      cases hw:Qd9 s[k].toNat
      ·go_wp2_with (first | (go_at_call 114;refine (Qcu _ _).mono ?_;rintro e w' ⟨rfl,rfl⟩) | (go_at_call 115;refine (Qg9 _ _).mono ?_;rintro e w' ⟨rfl,rfl⟩))
       try rw [Exit.noGoto_ret]
       go_ret2
       obtain ⟨h1,h2⟩:=HR.out.other hlt hw HC.out;exact ⟨Qr1 (by rw [h1]) (by rw [h2]),rfl⟩
      ·go_wp2_with (first | (go_at_call 114;refine (Qcu _ _).mono ?_;rintro e w' ⟨rfl,rfl⟩) | (go_at_call 115;refine (Qg9 _ _).mono ?_;rintro e w' ⟨rfl,rfl⟩))
       go_round
       case rel=>exact ⟨k+1,false,by omega,by go_num,rfl,HR.out.white hlt hw⟩
       case measure=>simp [intOf];omega
    ·go_wp2_with (first | (go_at_call 114;refine (Qcu _ _).mono ?_;rintro e w' ⟨rfl,rfl⟩) | (go_at_call 115;refine (Qg9 _ _).mono ?_;rintro e w' ⟨rfl,rfl⟩))
     go_round
     case rel=>exact ⟨k+1,(s[k].toNat != 10),by omega,by go_num,by rw [Zfe],HR.out.inside hlt ha⟩
     case measure=>simp [intOf];omega
  ·go_wp2
   try rw [Exit.noGoto_ret]
   go_ret2
   obtain ⟨h1,h2⟩:=HR.out.done hlt;exact ⟨Qr1 (by rw [h1]) (by rw [h2]),rfl⟩
def LeadAt (s:ByteArray) (i k:Nat):Prop:=i≤k∧k≤s.size∧(SkipAt s i k false∨(k=s.size∧Qal s i=k))
def InnerAt (s:ByteArray) (i j k:Nat):Prop:=j≤k∧SkipAt s i k true∧(k=j→∃ h:k<s.size,s[k].toNat=35)
theorem Qpi {a b c d:Int} (h:a=b) (h':c=d):Ending.returned (.tuple #[.int .i64 a,.int .i64 c]) = .returned (.tuple #[.int .i64 b,.int .i64 d]):=by rw [h,h']
theorem LeadAt.state {s:ByteArray} {i k:Nat} (h:LeadAt s i k) (hk:k<s.size):SkipAt s i k false:=by
 obtain ⟨_,_,h | h⟩:=h
 ·exact h
 ·omega
theorem LeadAt.done {s:ByteArray} {i k:Nat} (h:LeadAt s i k) (hk:¬ k<s.size):Qal s i=k∧Qjf s i = -1:=by
 obtain ⟨_,_,h|⟨rfl,h⟩⟩:=h
 ·exact ⟨(h.done hk).1,Qiu (h.done hk) (.inl rfl)⟩
 ·exact ⟨h,Qiu ⟨h,rfl⟩ (.inr hk)⟩
theorem LeadAt.white {s:ByteArray} {i k:Nat} (h:LeadAt s i k) (hk:k<s.size) (hw:Qd9 s[k].toNat=true):LeadAt s i (k+1):=by
 have h1:=(h.state hk).white hk hw;exact ⟨h1.1,h1.2.1,.inl h1⟩
theorem LeadAt.other {s:ByteArray} {i k:Nat} (h:LeadAt s i k) (hk:k<s.size) (hw:Qd9 s[k].toNat=false) (hc:s[k].toNat≠35):Qal s i=k∧Qjf s i = -1:=by
 have h1:=(h.state hk).other hk hw hc;exact ⟨h1.1,Qiu h1 (.inl rfl)⟩
theorem LeadAt.inner {s:ByteArray} {i k:Nat} (h:LeadAt s i k) (hk:k<s.size) (hc:s[k].toNat=35):InnerAt s i k k :=
 ⟨xA _,(h.state hk).begun hk hc,fun _=>⟨hk,hc⟩⟩
theorem InnerAt.next {s:ByteArray} {i j k:Nat} (h:InnerAt s i j k) (hk:k<s.size) (ha:Qap s[k].toNat=true) (hc:s[k].toNat≠10):InnerAt s i j (k+1):=by
 have h1:=h.2.1.inside hk ha;have h2:(s[k].toNat != 10)=true:=by simpa using hc
 rw [h2] at h1;have:=h.1
 exact ⟨by omega,h1,by omega⟩
theorem InnerAt.bad {s:ByteArray} {i j k:Nat} (h:InnerAt s i j k) (hk:k<s.size) (ha:Qap s[k].toNat=false):Qal s i=k∧Qjf s i=k:=by
 have h1:=h.2.1.bad hk ha;exact ⟨h1.1,Qpv h1 hk⟩
theorem InnerAt.over {s:ByteArray} {i j k:Nat} (h:InnerAt s i j k) (hk:¬ k<s.size):LeadAt s i k∧j<k:=by
 have h1:=h.2.1;refine ⟨⟨h1.1,h1.2.1,.inr ⟨by have:=h1.2.1;omega,(h1.done hk).1⟩⟩,?_⟩
 rcases Nat.lt_or_ge j k with h2 | h2
 ·exact h2
 ·have:=h.1
  obtain ⟨h3,_⟩:=h.2.2 (by omega);omega
theorem InnerAt.ended {s:ByteArray} {i j k:Nat} (h:InnerAt s i j k) (hk:k<s.size) (hc:s[k].toNat=10):LeadAt s i k∧j<k:=by
 have h1:=h.2.1;refine ⟨⟨h1.1,h1.2.1,.inl (h1.ended hk hc)⟩,?_⟩
 rcases Nat.lt_or_ge j k with h2 | h2
 ·exact h2
 ·have:=h.1
  obtain ⟨_,h4⟩:=h.2.2 (by omega);omega
theorem Qul (s:ByteArray) (i:Nat) (w:World) (hi:i≤s.size) (hs:s.size≤maxLen) :
  Calls Tryz.prog 167 #[.string s,.int .i64 i] w fun e w'=>e = .returned (.tuple #[.int .i64 (((Qal s i:Nat):Int)-(i:Int)),.int .i64 (Qjf s i)])∧w=w':=by
 unfold maxLen at hs;have hst:=hQ (show LeadAt s i i from ⟨xA _,hi,.inl (SkipAt.start s i hi)⟩)
 go_enter Tryz.func167,Tryz.ntmps167
 go_wp2
 go_loop [6] (fun a=>∃ (k:Nat),i≤k∧k≤s.size∧a = .int .i64 k∧LeadAt s i k) (fun a=>s.size-(intOf a).toNat)
 case atStart=>exact ⟨i,xA _,hi,rfl,hst.out⟩
 case round =>
  obtain ⟨k,hik,hk,rfl,hrel⟩:=hrel;have HR:=hQ hrel;clear hrel hst
  by_cases hlt:k<s.size
  ·cases hw:Qd9 s[k].toNat
   ·by_cases hc:s[k].toNat=35
    ·have hc':((s[k].toNat:Int)==35)=true:=by simp [hc]
     have HC:=hQ hc;clear hc;go_wp2_with (first | (go_at_call 160;refine (Qa5 _ _).mono ?_;rintro e w' ⟨rfl,rfl⟩) | (go_at_call 137;refine (Qdm _ _).mono ?_;rintro e w' ⟨rfl,rfl⟩))
     clear hc' hw
     go_loop [6] (fun a=>∃ (k':Nat),i≤k'∧k'≤s.size∧a = .int .i64 k'∧InnerAt s i k k') (fun a=>s.size-(intOf a).toNat)
     case atStart=>exact ⟨k,hik,hk,rfl,HR.out.inner hlt HC.out⟩
     case round =>
      obtain ⟨k',hik',hk',rfl,hrel⟩:=hrel;have HI:=hQ hrel;clear hrel
      by_cases hlt':k'<s.size
      ·by_cases h10:s[k'].toNat=10
       ·have h10':((s[k'].toNat:Int) != 10)=false:=by simp [h10]
        have H10:=hQ h10;clear h10
        go_wp2
        have HO:=hQ (HI.out.ended hlt' H10.out)
        go_round
        case rel=>exact ⟨k',hik',hk',rfl,HO.out.1⟩
        case measure=>have:=HO.out.2;simp [intOf];omega
       ·have h10':((s[k'].toNat:Int) != 10)=true:=by simp;omega
        have H10:=hQ h10;clear h10
        cases ha:Qap s[k'].toNat
        ·go_wp2_with (first | (go_at_call 160;refine (Qa5 _ _).mono ?_;rintro e w' ⟨rfl,rfl⟩) | (go_at_call 137;refine (Qdm _ _).mono ?_;rintro e w' ⟨rfl,rfl⟩))
         go_ret2
         obtain ⟨h1,h2⟩:=HI.out.bad hlt' ha;exact ⟨Qpi (by rw [h1]) (by rw [h2]),rfl⟩
        ·go_wp2_with (first | (go_at_call 160;refine (Qa5 _ _).mono ?_;rintro e w' ⟨rfl,rfl⟩) | (go_at_call 137;refine (Qdm _ _).mono ?_;rintro e w' ⟨rfl,rfl⟩))
         go_round
         case rel=>exact ⟨k'+1,by omega,by omega,by go_num,HI.out.next hlt' ha H10.out⟩
         case measure=>simp [intOf];omega
      ·go_wp2
       have HO:=hQ (HI.out.over hlt')
       go_round
       case rel=>exact ⟨k',hik',hk',rfl,HO.out.1⟩
       case measure=>have:=HO.out.2;simp [intOf];omega
    ·have hc':((s[k].toNat:Int)==35)=false:=by simp;omega
     have HC:=hQ hc;clear hc;go_wp2_with (first | (go_at_call 160;refine (Qa5 _ _).mono ?_;rintro e w' ⟨rfl,rfl⟩) | (go_at_call 137;refine (Qdm _ _).mono ?_;rintro e w' ⟨rfl,rfl⟩))
     go_ret2
     obtain ⟨h1,h2⟩:=HR.out.other hlt hw HC.out;exact ⟨Qpi (by rw [h1]) (by rw [h2]),rfl⟩
   ·go_wp2_with (first | (go_at_call 160;refine (Qa5 _ _).mono ?_;rintro e w' ⟨rfl,rfl⟩) | (go_at_call 137;refine (Qdm _ _).mono ?_;rintro e w' ⟨rfl,rfl⟩))
    go_round
    case rel=>exact ⟨k+1,by omega,by omega,by go_num,HR.out.white hlt hw⟩
    case measure=>simp [intOf];omega
  ·go_wp2
   go_ret2
   obtain ⟨h1,h2⟩:=HR.out.done hlt;exact ⟨Qpi (by rw [h1]) (by rw [h2]),rfl⟩
theorem Qmu (s:ByteArray) (w:World) (hs:s.size≤maxLen) :
  Calls Tryz.prog 167 #[.string s,.int .i64 0] w fun e w'=>e = .returned (.tuple #[.int .i64 ((Qal s 0:Nat):Int),.int .i64 (Qjf s 0)])∧w=w':=by
 have h:=Qul s 0 w (xZ _) hs
 simpa using h
theorem Qzy {s:ByteArray} (h:Qal s 0=s.size):Qpw false (suf s 0)=Qc2 s 0:=by
 refine Qvb false (suf s 0) ?_;rw [Qbw];unfold Qal at h;omega
def OpenAt (s:ByteArray) (k:Nat) (o:Bool):Prop:=k≤s.size∧Qpw false (suf s 0)=Qpw o (suf s k)
theorem OpenAt.next {s:ByteArray} {k:Nat} {o:Bool} (h:OpenAt s k o) (hk:k<s.size):OpenAt s (k+1) (if s[k].toNat=10 then false else if s[k].toNat=35 then true else o):=by
 refine ⟨by omega,?_⟩;rw [h.2,Qc8 s k hk];rfl
theorem OpenAt.done {s:ByteArray} {k:Nat} {o:Bool} (h:OpenAt s k o) (hk:¬ k<s.size):Qpw false (suf s 0)=o:=by
 rw [h.2,Qkm s k (by omega)];rfl
theorem Qmv (s:ByteArray) (fin:Bool) (w:World) (hs:s.size≤maxLen) :
  Calls Tryz.prog 143 #[.string s,.bool fin] w fun e w'=>e = .returned (.bool (Qf4 s fin))∧w=w':=by
 have h1:=Qgc s 0 (xZ _);have HS:=hQ hs;unfold maxLen at hs;have HT:=hQ (show Qf4 s fin=((Qal s 0==s.size) && (fin || !Qc2 s 0)) from rfl)
 by_cases hz:Qal s 0=s.size
 ·have HZ:=hQ hz;have hb:Qjf s 0 = -1:=Qiu ⟨hz,rfl⟩ (.inr (by omega));have hz':((Qal s 0:Nat):Int)=(s.size:Int):=by omega
  clear hz
  cases fin
  ·go_enter Tryz.func143,Tryz.ntmps143
   go_wp2_with (go_at_call 167;refine (Qmu s _ HS.out).mono ?_;rintro e w' ⟨rfl,rfl⟩)
   go_loop [7,8] (fun a b=>∃ (k:Nat) (o:Bool),k≤s.size∧b = .int .i64 k∧a = .bool o∧OpenAt s k o) (fun _ b=>s.size-(intOf b).toNat)
   case atStart=>exact ⟨0,false,xZ _,rfl,rfl,xZ _,rfl⟩
   case round =>
    obtain ⟨k,o,hk,rfl,rfl,hrel⟩:=hrel;have HR:=hQ hrel;clear hrel
    by_cases hlt:k<s.size
    ·by_cases h10:s[k].toNat=10
     ·have h10':((s[k].toNat:Int)==10)=true:=by simp [h10]
      have h35':((s[k].toNat:Int)==35)=false:=by simp [h10]
      have H10:=hQ h10;clear h10
      go_wp2
      go_round
      case rel=>exact ⟨k+1,false,by omega,by go_num,rfl,by have:=HR.out.next hlt;rwa [xO H10.out] at this⟩
      case measure=>simp [intOf];omega
     ·have h10':((s[k].toNat:Int)==10)=false:=by simp;omega
      have H10:=hQ h10;clear h10
      by_cases h35:s[k].toNat=35
      ·have h35':((s[k].toNat:Int)==35)=true:=by simp [h35]
       have H35:=hQ h35;clear h35
       go_wp2
       go_round
       case rel=>exact ⟨k+1,true,by omega,by go_num,rfl,by have:=HR.out.next hlt;rwa [xN H10.out,xO H35.out] at this⟩
       case measure=>simp [intOf];omega
      ·have h35':((s[k].toNat:Int)==35)=false:=by simp;omega
       have H35:=hQ h35;clear h35
       go_wp2
       go_round
       case rel=>exact ⟨k+1,o,by omega,by go_num,rfl,by have:=HR.out.next hlt;rwa [xN H10.out,xN H35.out] at this⟩
       case measure=>simp [intOf];omega
    ·go_wp2
     go_ret
     exact ⟨Qah (by rw [HT.out,←Qzy HZ.out,HR.out.done hlt,HZ.out];simp),rfl⟩
  ·go_enter Tryz.func143,Tryz.ntmps143
   go_wp2_with (go_at_call 167;refine (Qmu s _ HS.out).mono ?_;rintro e w' ⟨rfl,rfl⟩)
   go_ret
   exact ⟨Qah (by rw [HT.out,HZ.out];simp),rfl⟩
 ·have hz':((Qal s 0:Nat):Int)<(s.size:Int):=by omega
  have HZ:=hQ hz;clear hz
  by_cases hb:0≤Qjf s 0
  all_goals
   go_enter Tryz.func143,Tryz.ntmps143
   go_wp2_with (go_at_call 167;refine (Qmu s _ HS.out).mono ?_;rintro e w' ⟨rfl,rfl⟩)
   go_ret
   exact ⟨Qah (by rw [HT.out,beq_eq_false_iff_ne.2 HZ.out];rfl),rfl⟩
end Go.Proofs.YtfjpemdejoejbaaGreat
