/- Part 2 -/
import Derived.Test.YtjidpkcjpgdafaaGreatSe1
import Derived.Test.YtjidpkcjpgdafaaGreatRows
import Derived.WalkKit
import Derived.WalkSpells
import Derived.WalkLawsBesides
import Derived.Lib.Hide
import Derived.Deep.LoopGhost
import Derived.Deep.QuietTactic
import Derived.BigQuiet
set_option maxRecDepth 100000
set_option maxHeartbeats 4000000
namespace Go.Proofs.YtjidpkcjpgdafaaGreat
open Go.RowKit
theorem Qah {a b:Bool} (h:a=b):Ending.returned (.bool a) = .returned (.bool b):=by rw [h]
theorem Qg9 (c:Int) (w:World):Calls Tryz.prog 165 #[.int .u8 c] w fun e w'=>e = .returned (.bool (Qd6 c))∧w=w':=by
 go_enter Tryz.func165,Tryz.ntmps165
 go_wp2
 all_goals
  go_ret
  exact ⟨Qah (by simp_all [Qd6];try omega),rfl⟩
theorem Qfw (c:Int) (w:World):Calls Tryz.prog 217 #[.int .u8 c] w fun e w'=>e = .returned (.bool (Qbz c))∧w=w':=by
 go_enter Tryz.func217,Tryz.ntmps217
 go_wp2
 all_goals
  go_ret
  exact ⟨Qah (by simp_all [Qbz];try omega),rfl⟩
theorem Qdk (c:Int) (w:World):Calls Tryz.prog 168 #[.int .u8 c] w fun e w'=>e = .returned (.bool (Qb0 c))∧w=w':=by
 go_enter Tryz.func168,Tryz.ntmps168
 go_wp2
 all_goals
  go_ret
  exact ⟨Qah (by simp_all [Qb0];try omega),rfl⟩
theorem Qbu (c:Int) (w:World):Calls Tryz.prog 166 #[.int .u8 c] w fun e w'=>e = .returned (.bool (Qau c))∧w=w':=by
 go_enter Tryz.func166,Tryz.ntmps166
 go_wp2_with (first | (go_at_call 217;refine (Qfw _ _).mono ?_;rintro e w' ⟨rfl,rfl⟩))
 all_goals
  go_ret
  exact ⟨Qah (by simp_all [Qau,Qh3];try omega),rfl⟩
theorem Qct (c:Int) (w:World):Calls Tryz.prog 164 #[.int .u8 c] w fun e w'=>e = .returned (.bool (Qaq c))∧w=w':=by
 go_enter Tryz.func164,Tryz.ntmps164
 go_wp2_with (first | (go_at_call 165;refine (Qg9 _ _).mono ?_;rintro e w' ⟨rfl,rfl⟩))
 all_goals
  go_ret
  exact ⟨Qah (by simp_all [Qaq];try omega),rfl⟩
theorem Qdl (c:Int) (w:World):Calls Tryz.prog 235 #[.int .u8 c] w fun e w'=>e = .returned (.bool (Qd6 c))∧w=w':=by
 go_enter Tryz.func235,Tryz.ntmps235
 go_wp2
 all_goals
  go_ret
  exact ⟨Qah (by simp_all [Qd6];try omega),rfl⟩
theorem Qax (c:Int) (w:World):Calls Tryz.prog 250 #[.int .u8 c] w fun e w'=>e = .returned (.bool (Qbz c))∧w=w':=by
 go_enter Tryz.func250,Tryz.ntmps250
 go_wp2
 all_goals
  go_ret
  exact ⟨Qah (by simp_all [Qbz];try omega),rfl⟩
theorem Qba (c:Int) (w:World):Calls Tryz.prog 249 #[.int .u8 c] w fun e w'=>e = .returned (.bool (Qh3 c))∧w=w':=by
 go_enter Tryz.func249,Tryz.ntmps249
 go_wp2
 all_goals
  go_ret
  exact ⟨Qah (by simp_all [Qh3];try omega),rfl⟩
theorem Qb4 (c:Int) (w:World):Calls Tryz.prog 248 #[.int .u8 c] w fun e w'=>e = .returned (.bool (Qb0 c))∧w=w':=by
 go_enter Tryz.func248,Tryz.ntmps248
 go_wp2
 all_goals
  go_ret
  exact ⟨Qah (by simp_all [Qb0];try omega),rfl⟩
theorem Qbg (c:Int) (w:World):Calls Tryz.prog 247 #[.int .u8 c] w fun e w'=>e = .returned (.bool (Qf9 c))∧w=w':=by
 go_enter Tryz.func247,Tryz.ntmps247
 go_wp2
 all_goals
  go_ret
  exact ⟨Qah (by simp_all [Qf9];try omega),rfl⟩
theorem Qa4 (c:Int) (w:World):Calls Tryz.prog 246 #[.int .u8 c] w fun e w'=>e = .returned (.bool (Qaq c))∧w=w':=by
 go_enter Tryz.func246,Tryz.ntmps246
 go_wp2_with (first | (go_at_call 235;refine (Qdl _ _).mono ?_;rintro e w' ⟨rfl,rfl⟩) | (go_at_call 247;refine (Qbg _ _).mono ?_;rintro e w' ⟨rfl,rfl⟩))
 all_goals
  go_ret
  exact ⟨Qah (by simp_all [Qh5]),rfl⟩
theorem Qe2 (c:Int) (w:World):Calls Tryz.prog 257 #[.int .u8 c] w fun e w'=>e = .returned (.bool (Qh4 c))∧w=w':=by
 go_enter Tryz.func257,Tryz.ntmps257
 go_wp2_with (first | (go_at_call 250;refine (Qax _ _).mono ?_;rintro e w' ⟨rfl,rfl⟩) | (go_at_call 249;refine (Qba _ _).mono ?_;rintro e w' ⟨rfl,rfl⟩) | (go_at_call 248;refine (Qb4 _ _).mono ?_;rintro e w' ⟨rfl,rfl⟩))
 all_goals
  go_ret
  exact ⟨Qah (by simp_all [Qh4,Qau];try omega),rfl⟩
theorem Qrw {a b:Int} {c d:Bool} (h:a=b) (h':c=d):Ending.returned (.tuple #[.int .i64 a,.bool c]) = .returned (.tuple #[.int .i64 b,.bool d]):=by rw [h,h']
theorem Zed (n:Nat):(n != 10)=((n:Int) != 10):=by rw [Bool.eq_iff_iff];simp;omega
theorem Qo5 (s:ByteArray) (i:Nat) (w:World) (hi:i≤s.size) (hs:s.size≤maxLen) :
  Calls Tryz.prog 122 #[.string s,.int .i64 i] w fun e w'=>e = .returned (.tuple #[.int .i64 (Qam s i:Nat),.bool (Qcz s i)])∧w=w':=by
 unfold maxLen at hs;have hst:=hQ (SkipAt.start s i hi)
 go_enter Tryz.func122,Tryz.ntmps122
 go_wp2
 go_step3
 go_wp2
 go_step3
 go_wp2
 go_loop [1,5] (fun a b=>∃ (k:Nat) (o:Bool),k≤s.size∧a = .int .i64 k∧b = .bool o∧SkipAt s i k o) (fun a _=>s.size-(intOf a).toNat)
 case atStart=>exact ⟨i,false,hi,rfl,rfl,hst.out⟩
 case round =>
  obtain ⟨k,o,hk,rfl,rfl,hrel⟩:=hrel;have HR:=hQ hrel;clear hrel hst
  by_cases hlt:k<s.size
  ·cases ha:Qaq s[k].toNat
   ·go_wp2_with (first | (go_at_call 164;refine (Qct _ _).mono ?_;rintro e w' ⟨rfl,rfl⟩) | (go_at_call 165;refine (Qg9 _ _).mono ?_;rintro e w' ⟨rfl,rfl⟩))
    try rw [Exit.noGoto_ret]
    go_ret2
    obtain ⟨h1,h2⟩:=HR.out.bad hlt ha;exact ⟨Qrw (by rw [h1]) (by rw [h2]),rfl⟩
   ·cases o
    ·by_cases hc:s[k].toNat=35
     ·have hc':((s[k].toNat:Int)==35)=true:=by simp [hc]
      have HC:=hQ hc;clear hc;go_wp2_with (first | (go_at_call 164;refine (Qct _ _).mono ?_;rintro e w' ⟨rfl,rfl⟩) | (go_at_call 165;refine (Qg9 _ _).mono ?_;rintro e w' ⟨rfl,rfl⟩))
      go_round
      case rel=>exact ⟨k+1,true,by omega,by go_num,rfl,HR.out.opens hlt HC.out⟩
      case measure=>simp [intOf];omega
     ·have hc':((s[k].toNat:Int)==35)=false:=by simp;omega
      have HC:=hQ hc;clear hc
      cases hw:Qd6 s[k].toNat
      ·go_wp2_with (first | (go_at_call 164;refine (Qct _ _).mono ?_;rintro e w' ⟨rfl,rfl⟩) | (go_at_call 165;refine (Qg9 _ _).mono ?_;rintro e w' ⟨rfl,rfl⟩))
       try rw [Exit.noGoto_ret]
       go_ret2
       obtain ⟨h1,h2⟩:=HR.out.other hlt hw HC.out;exact ⟨Qrw (by rw [h1]) (by rw [h2]),rfl⟩
      ·go_wp2_with (first | (go_at_call 164;refine (Qct _ _).mono ?_;rintro e w' ⟨rfl,rfl⟩) | (go_at_call 165;refine (Qg9 _ _).mono ?_;rintro e w' ⟨rfl,rfl⟩))
       go_round
       case rel=>exact ⟨k+1,false,by omega,by go_num,rfl,HR.out.white hlt hw⟩
       case measure=>simp [intOf];omega
    ·go_wp2_with (first | (go_at_call 164;refine (Qct _ _).mono ?_;rintro e w' ⟨rfl,rfl⟩) | (go_at_call 165;refine (Qg9 _ _).mono ?_;rintro e w' ⟨rfl,rfl⟩))
     go_round
     case rel=>exact ⟨k+1,(s[k].toNat != 10),by omega,by go_num,by rw [Zed],HR.out.inside hlt ha⟩
     case measure=>simp [intOf];omega
  ·go_wp2
   try rw [Exit.noGoto_ret]
   go_ret2
   obtain ⟨h1,h2⟩:=HR.out.done hlt;exact ⟨Qrw (by rw [h1]) (by rw [h2]),rfl⟩
def LeadAt (s:ByteArray) (i k:Nat):Prop:=i≤k∧k≤s.size∧(SkipAt s i k false∨(k=s.size∧Qam s i=k))
def InnerAt (s:ByteArray) (i j k:Nat):Prop:=j≤k∧SkipAt s i k true∧(k=j→∃ h:k<s.size,s[k].toNat=35)
theorem Qpu {a b c d:Int} (h:a=b) (h':c=d):Ending.returned (.tuple #[.int .i64 a,.int .i64 c]) = .returned (.tuple #[.int .i64 b,.int .i64 d]):=by rw [h,h']
theorem LeadAt.state {s:ByteArray} {i k:Nat} (h:LeadAt s i k) (hk:k<s.size):SkipAt s i k false:=by
 obtain ⟨_,_,h | h⟩:=h
 ·exact h
 ·omega
theorem LeadAt.done {s:ByteArray} {i k:Nat} (h:LeadAt s i k) (hk:¬ k<s.size):Qam s i=k∧Qi5 s i = -1:=by
 obtain ⟨_,_,h|⟨rfl,h⟩⟩:=h
 ·exact ⟨(h.done hk).1,Qil (h.done hk) (.inl rfl)⟩
 ·exact ⟨h,Qil ⟨h,rfl⟩ (.inr hk)⟩
theorem LeadAt.white {s:ByteArray} {i k:Nat} (h:LeadAt s i k) (hk:k<s.size) (hw:Qd6 s[k].toNat=true):LeadAt s i (k+1):=by
 have h1:=(h.state hk).white hk hw;exact ⟨h1.1,h1.2.1,.inl h1⟩
theorem LeadAt.other {s:ByteArray} {i k:Nat} (h:LeadAt s i k) (hk:k<s.size) (hw:Qd6 s[k].toNat=false) (hc:s[k].toNat≠35):Qam s i=k∧Qi5 s i = -1:=by
 have h1:=(h.state hk).other hk hw hc;exact ⟨h1.1,Qil h1 (.inl rfl)⟩
theorem LeadAt.inner {s:ByteArray} {i k:Nat} (h:LeadAt s i k) (hk:k<s.size) (hc:s[k].toNat=35):InnerAt s i k k :=
 ⟨xA _,(h.state hk).begun hk hc,fun _=>⟨hk,hc⟩⟩
theorem InnerAt.next {s:ByteArray} {i j k:Nat} (h:InnerAt s i j k) (hk:k<s.size) (ha:Qaq s[k].toNat=true) (hc:s[k].toNat≠10):InnerAt s i j (k+1):=by
 have h1:=h.2.1.inside hk ha;have h2:(s[k].toNat != 10)=true:=by simpa using hc
 rw [h2] at h1;have:=h.1
 exact ⟨by omega,h1,by omega⟩
theorem InnerAt.bad {s:ByteArray} {i j k:Nat} (h:InnerAt s i j k) (hk:k<s.size) (ha:Qaq s[k].toNat=false):Qam s i=k∧Qi5 s i=k:=by
 have h1:=h.2.1.bad hk ha;exact ⟨h1.1,Qp5 h1 hk⟩
theorem InnerAt.over {s:ByteArray} {i j k:Nat} (h:InnerAt s i j k) (hk:¬ k<s.size):LeadAt s i k∧j<k:=by
 have h1:=h.2.1;refine ⟨⟨h1.1,h1.2.1,.inr ⟨by have:=h1.2.1;omega,(h1.done hk).1⟩⟩,?_⟩
 rcases Nat.lt_or_ge j k with h2 | h2
 ·exact h2
 ·have:=h.1
  obtain ⟨h3,_⟩:=h.2.2 (by omega);omega
theorem InnerAt.ended {s:ByteArray} {i j k:Nat} (h:InnerAt s i j k) (hk:k<s.size) (hc:s[k].toNat=10):LeadAt s i k∧j<k:=by
 have h1:=h.2.1;refine ⟨⟨h1.1,h1.2.1,.inl (h1.ended hk hc)⟩,?_⟩
 rcases Nat.lt_or_ge j k with h2 | h2
 ·exact h2
 ·have:=h.1
  obtain ⟨_,h4⟩:=h.2.2 (by omega);omega
theorem Qt6 (s:ByteArray) (i:Nat) (w:World) (hi:i≤s.size) (hs:s.size≤maxLen) :
  Calls Tryz.prog 238 #[.string s,.int .i64 i] w fun e w'=>e = .returned (.tuple #[.int .i64 (((Qam s i:Nat):Int)-(i:Int)),.int .i64 (Qi5 s i)])∧w=w':=by
 unfold maxLen at hs;have hst:=hQ (show LeadAt s i i from ⟨xA _,hi,.inl (SkipAt.start s i hi)⟩)
 go_enter Tryz.func238,Tryz.ntmps238
 go_wp2
 go_loop [6] (fun a=>∃ (k:Nat),i≤k∧k≤s.size∧a = .int .i64 k∧LeadAt s i k) (fun a=>s.size-(intOf a).toNat)
 case atStart=>exact ⟨i,xA _,hi,rfl,hst.out⟩
 case round =>
  obtain ⟨k,hik,hk,rfl,hrel⟩:=hrel;have HR:=hQ hrel;clear hrel hst
  by_cases hlt:k<s.size
  ·cases hw:Qd6 s[k].toNat
   ·by_cases hc:s[k].toNat=35
    ·have hc':((s[k].toNat:Int)==35)=true:=by simp [hc]
     have HC:=hQ hc;clear hc;go_wp2_with (first | (go_at_call 246;refine (Qa4 _ _).mono ?_;rintro e w' ⟨rfl,rfl⟩) | (go_at_call 235;refine (Qdl _ _).mono ?_;rintro e w' ⟨rfl,rfl⟩))
     clear hc' hw
     go_loop [6] (fun a=>∃ (k':Nat),i≤k'∧k'≤s.size∧a = .int .i64 k'∧InnerAt s i k k') (fun a=>s.size-(intOf a).toNat)
     case atStart=>exact ⟨k,hik,hk,rfl,HR.out.inner hlt HC.out⟩
     case round =>
      obtain ⟨k',hik',hk',rfl,hrel⟩:=hrel;have HI:=hQ hrel;clear hrel
      by_cases hlt':k'<s.size
      ·by_cases h10:s[k'].toNat=10
       ·have h10':((s[k'].toNat:Int) != 10)=false:=by simp [h10]
        have H10:=hQ h10;clear h10
        go_wp2
        have HO:=hQ (HI.out.ended hlt' H10.out)
        go_round
        case rel=>exact ⟨k',hik',hk',rfl,HO.out.1⟩
        case measure=>have:=HO.out.2;simp [intOf];omega
       ·have h10':((s[k'].toNat:Int) != 10)=true:=by simp;omega
        have H10:=hQ h10;clear h10
        cases ha:Qaq s[k'].toNat
        ·go_wp2_with (first | (go_at_call 246;refine (Qa4 _ _).mono ?_;rintro e w' ⟨rfl,rfl⟩) | (go_at_call 235;refine (Qdl _ _).mono ?_;rintro e w' ⟨rfl,rfl⟩))
         go_ret2
         obtain ⟨h1,h2⟩:=HI.out.bad hlt' ha;exact ⟨Qpu (by rw [h1]) (by rw [h2]),rfl⟩
        ·go_wp2_with (first | (go_at_call 246;refine (Qa4 _ _).mono ?_;rintro e w' ⟨rfl,rfl⟩) | (go_at_call 235;refine (Qdl _ _).mono ?_;rintro e w' ⟨rfl,rfl⟩))
         go_round
         case rel=>exact ⟨k'+1,by omega,by omega,by go_num,HI.out.next hlt' ha H10.out⟩
         case measure=>simp [intOf];omega
      ·go_wp2
       have HO:=hQ (HI.out.over hlt')
       go_round
       case rel=>exact ⟨k',hik',hk',rfl,HO.out.1⟩
       case measure=>have:=HO.out.2;simp [intOf];omega
    ·have hc':((s[k].toNat:Int)==35)=false:=by simp;omega
     have HC:=hQ hc;clear hc;go_wp2_with (first | (go_at_call 246;refine (Qa4 _ _).mono ?_;rintro e w' ⟨rfl,rfl⟩) | (go_at_call 235;refine (Qdl _ _).mono ?_;rintro e w' ⟨rfl,rfl⟩))
     go_ret2
     obtain ⟨h1,h2⟩:=HR.out.other hlt hw HC.out;exact ⟨Qpu (by rw [h1]) (by rw [h2]),rfl⟩
   ·go_wp2_with (first | (go_at_call 246;refine (Qa4 _ _).mono ?_;rintro e w' ⟨rfl,rfl⟩) | (go_at_call 235;refine (Qdl _ _).mono ?_;rintro e w' ⟨rfl,rfl⟩))
    go_round
    case rel=>exact ⟨k+1,by omega,by omega,by go_num,HR.out.white hlt hw⟩
    case measure=>simp [intOf];omega
  ·go_wp2
   go_ret2
   obtain ⟨h1,h2⟩:=HR.out.done hlt;exact ⟨Qpu (by rw [h1]) (by rw [h2]),rfl⟩
theorem Qm5 (s:ByteArray) (w:World) (hs:s.size≤maxLen) :
  Calls Tryz.prog 238 #[.string s,.int .i64 0] w fun e w'=>e = .returned (.tuple #[.int .i64 ((Qam s 0:Nat):Int),.int .i64 (Qi5 s 0)])∧w=w':=by
 have h:=Qt6 s 0 w (xZ _) hs
 simpa using h
theorem Qzb {s:ByteArray} (h:Qam s 0=s.size):Qp6 false (suf s 0)=Qcz s 0:=by
 refine Quq false (suf s 0) ?_;rw [Qbt];unfold Qam at h;omega
def OpenAt (s:ByteArray) (k:Nat) (o:Bool):Prop:=k≤s.size∧Qp6 false (suf s 0)=Qp6 o (suf s k)
theorem OpenAt.next {s:ByteArray} {k:Nat} {o:Bool} (h:OpenAt s k o) (hk:k<s.size):OpenAt s (k+1) (if s[k].toNat=10 then false else if s[k].toNat=35 then true else o):=by
 refine ⟨by omega,?_⟩;rw [h.2,Qc5 s k hk];rfl
theorem OpenAt.done {s:ByteArray} {k:Nat} {o:Bool} (h:OpenAt s k o) (hk:¬ k<s.size):Qp6 false (suf s 0)=o:=by
 rw [h.2,Qkg s k (by omega)];rfl
theorem Qm6 (s:ByteArray) (fin:Bool) (w:World) (hs:s.size≤maxLen) :
  Calls Tryz.prog 213 #[.string s,.bool fin] w fun e w'=>e = .returned (.bool (Qf5 s fin))∧w=w':=by
 have h1:=Qge s 0 (xZ _);have HS:=hQ hs;unfold maxLen at hs;have HT:=hQ (show Qf5 s fin=((Qam s 0==s.size) && (fin || !Qcz s 0)) from rfl)
 by_cases hz:Qam s 0=s.size
 ·have HZ:=hQ hz;have hb:Qi5 s 0 = -1:=Qil ⟨hz,rfl⟩ (.inr (by omega));have hz':((Qam s 0:Nat):Int)=(s.size:Int):=by omega
  clear hz
  cases fin
  ·go_enter Tryz.func213,Tryz.ntmps213
   go_wp2_with (go_at_call 238;refine (Qm5 s _ HS.out).mono ?_;rintro e w' ⟨rfl,rfl⟩)
   go_loop [7,8] (fun a b=>∃ (k:Nat) (o:Bool),k≤s.size∧b = .int .i64 k∧a = .bool o∧OpenAt s k o) (fun _ b=>s.size-(intOf b).toNat)
   case atStart=>exact ⟨0,false,xZ _,rfl,rfl,xZ _,rfl⟩
   case round =>
    obtain ⟨k,o,hk,rfl,rfl,hrel⟩:=hrel;have HR:=hQ hrel;clear hrel
    by_cases hlt:k<s.size
    ·by_cases h10:s[k].toNat=10
     ·have h10':((s[k].toNat:Int)==10)=true:=by simp [h10]
      have h35':((s[k].toNat:Int)==35)=false:=by simp [h10]
      have H10:=hQ h10;clear h10
      go_wp2
      go_round
      case rel=>exact ⟨k+1,false,by omega,by go_num,rfl,by have:=HR.out.next hlt;rwa [xO H10.out] at this⟩
      case measure=>simp [intOf];omega
     ·have h10':((s[k].toNat:Int)==10)=false:=by simp;omega
      have H10:=hQ h10;clear h10
      by_cases h35:s[k].toNat=35
      ·have h35':((s[k].toNat:Int)==35)=true:=by simp [h35]
       have H35:=hQ h35;clear h35
       go_wp2
       go_round
       case rel=>exact ⟨k+1,true,by omega,by go_num,rfl,by have:=HR.out.next hlt;rwa [xN H10.out,xO H35.out] at this⟩
       case measure=>simp [intOf];omega
      ·have h35':((s[k].toNat:Int)==35)=false:=by simp;omega
       have H35:=hQ h35;clear h35
       go_wp2
       go_round
       case rel=>exact ⟨k+1,o,by omega,by go_num,rfl,by have:=HR.out.next hlt;rwa [xN H10.out,xN H35.out] at this⟩
       case measure=>simp [intOf];omega
    ·go_wp2
     go_ret
     exact ⟨Qah (by rw [HT.out,←Qzb HZ.out,HR.out.done hlt,HZ.out];simp),rfl⟩
  ·go_enter Tryz.func213,Tryz.ntmps213
   go_wp2_with (go_at_call 238;refine (Qm5 s _ HS.out).mono ?_;rintro e w' ⟨rfl,rfl⟩)
   go_ret
   exact ⟨Qah (by rw [HT.out,HZ.out];simp),rfl⟩
 ·have hz':((Qam s 0:Nat):Int)<(s.size:Int):=by omega
  have HZ:=hQ hz;clear hz
  by_cases hb:0≤Qi5 s 0
  all_goals
   go_enter Tryz.func213,Tryz.ntmps213
   go_wp2_with (go_at_call 238;refine (Qm5 s _ HS.out).mono ?_;rintro e w' ⟨rfl,rfl⟩)
   go_ret
   exact ⟨Qah (by rw [HT.out,beq_eq_false_iff_ne.2 HZ.out];rfl),rfl⟩
end Go.Proofs.YtjidpkcjpgdafaaGreat
