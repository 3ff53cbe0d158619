/- Part 2 -/
import Derived.Test.YtfjpemdejoejbaaGreatTp1
import Derived.Test.YtfjpemdejoejbaaGreatRows
import Derived.WalkKit
import Derived.WalkSpells
import Derived.WalkLawsBesides
import Derived.Lib.Hide
import Derived.Deep.LoopGhost
import Derived.Deep.QuietTactic
import Derived.BigQuiet
set_option maxRecDepth 100000
set_option maxHeartbeats 4000000
namespace Go.Proofs.YtfjpemdejoejbaaGreat
open Go.Proofs.Tryz Go.RowKit
theorem Qaj{a b:Bool}(h:a=b):Ending.returned (.bool a) = .returned (.bool b):=by rw[h]
theorem Qhl(c:Int)(w:World):Calls prog 115 #[.int .u8 c] w fun e w'=>e = .returned (.bool (Qef c))/\w=w':=by
 go_enter func115,ntmps115;go_wp2
 all_goals
  go_ret;exact⟨Qaj (by simp_all [Qef];try omega),rfl⟩
theorem Qf1(c:Int)(w:World):Calls prog 150 #[.int .u8 c] w fun e w'=>e = .returned (.bool (Qbx c))/\w=w':=by
 go_enter func150,ntmps150;go_wp2
 all_goals
  go_ret;exact⟨Qaj (by simp_all [Qbx];try omega),rfl⟩
theorem Qdq(c:Int)(w:World):Calls prog 118 #[.int .u8 c] w fun e w'=>e = .returned (.bool (Qb8 c))/\w=w':=by
 go_enter func118,ntmps118;go_wp2
 all_goals
  go_ret;exact⟨Qaj (by simp_all [Qb8];try omega),rfl⟩
theorem Qb5(c:Int)(w:World):Calls prog 116 #[.int .u8 c] w fun e w'=>e = .returned (.bool (Qax c))/\w=w':=by
 go_enter func116,ntmps116;go_wp2_with (first | (go_at_call 150;refine(Qf1 _ _).mono ?_;rintro e w'⟨rfl,rfl⟩))
 all_goals
  go_ret;exact⟨Qaj (by simp_all [Qax,Qik];try omega),rfl⟩
theorem Qc3(c:Int)(w:World):Calls prog 114 #[.int .u8 c] w fun e w'=>e = .returned (.bool (Qas c))/\w=w':=by
 go_enter func114,ntmps114;go_wp2_with (first | (go_at_call 115;refine(Qhl _ _).mono ?_;rintro e w'⟨rfl,rfl⟩))
 all_goals
  go_ret;exact⟨Qaj (by simp_all [Qas];try omega),rfl⟩
theorem Qdr(c:Int)(w:World):Calls prog 137 #[.int .u8 c] w fun e w'=>e = .returned (.bool (Qef c))/\w=w':=by
 go_enter func137,ntmps137;go_wp2
 all_goals
  go_ret;exact⟨Qaj (by simp_all [Qef];try omega),rfl⟩
theorem Qaz(c:Int)(w:World):Calls prog 164 #[.int .u8 c] w fun e w'=>e = .returned (.bool (Qbx c))/\w=w':=by
 go_enter func164,ntmps164;go_wp2
 all_goals
  go_ret;exact⟨Qaj (by simp_all [Qbx];try omega),rfl⟩
theorem Qbk(c:Int)(w:World):Calls prog 163 #[.int .u8 c] w fun e w'=>e = .returned (.bool (Qik c))/\w=w':=by
 go_enter func163,ntmps163;go_wp2
 all_goals
  go_ret;exact⟨Qaj (by simp_all [Qik];try omega),rfl⟩
theorem Qcf(c:Int)(w:World):Calls prog 162 #[.int .u8 c] w fun e w'=>e = .returned (.bool (Qb8 c))/\w=w':=by
 go_enter func162,ntmps162;go_wp2
 all_goals
  go_ret;exact⟨Qaj (by simp_all [Qb8];try omega),rfl⟩
theorem Qbq(c:Int)(w:World):Calls prog 161 #[.int .u8 c] w fun e w'=>e = .returned (.bool (Qgj c))/\w=w':=by
 go_enter func161,ntmps161;go_wp2
 all_goals
  go_ret;exact⟨Qaj (by simp_all [Qgj];try omega),rfl⟩
theorem Qa8(c:Int)(w:World):Calls prog 160 #[.int .u8 c] w fun e w'=>e = .returned (.bool (Qas c))/\w=w':=by
 go_enter func160,ntmps160;go_wp2_with (first | (go_at_call 137;refine(Qdr _ _).mono ?_;rintro e w'⟨rfl,rfl⟩) | (go_at_call 161;refine(Qbq _ _).mono ?_;rintro e w'⟨rfl,rfl⟩))
 all_goals
  go_ret;exact⟨Qaj (by simp_all [Qio]),rfl⟩
theorem Qe7(c:Int)(w:World):Calls prog 174 #[.int .u8 c] w fun e w'=>e = .returned (.bool (Qhh c))/\w=w':=by
 go_enter func174,ntmps174;go_wp2_with (first | (go_at_call 164;refine(Qaz _ _).mono ?_;rintro e w'⟨rfl,rfl⟩) | (go_at_call 163;refine(Qbk _ _).mono ?_;rintro e w'⟨rfl,rfl⟩) | (go_at_call 162;refine(Qcf _ _).mono ?_;rintro e w'⟨rfl,rfl⟩))
 all_goals
  go_ret;exact⟨Qaj (by simp_all [Qhh,Qax];try omega),rfl⟩
theorem Qtj{a b:Int}{c d:Bool}(h:a=b)(h':c=d):Ending.returned (.tuple #[.int .i64 a,.bool c]) = .returned (.tuple #[.int .i64 b,.bool d]):=by rw[h,h']
theorem Zip(n:Nat):(n != 10)=((n:Int) != 10):=by rw[Bool.eq_iff_iff];simp;omega
theorem Qp2(s:yD)(i:Nat)(w:World)(hi:i<=s.size)(hs:s.size<=maxLen) :
  Calls prog 81 #[.string s,.int .i64 i] w fun e w'=>e = .returned (.tuple #[.int .i64 (Qan s i:Nat),.bool (Qc7 s i)])/\w=w':=by
 unfold maxLen at hs;have hst:=hQ (SkipAt.start s i hi);go_enter func81,ntmps81;go_wp2
 go_step3
 go_wp2
 go_step3
 go_wp2
 go_loop [1,5] (fun a b=>∃ (k:Nat) (o:Bool),k<=s.size/\a = .int .i64 k/\b = .bool o/\SkipAt s i k o) (fun a _=>s.size-(intOf a).toNat)
 case atStart=>exact⟨i,false,hi,rfl,rfl,hst.out⟩
 case round =>
  obtain⟨k,o,hk,rfl,rfl,hrel⟩:=hrel;have HR:=hQ hrel;clear hrel hst
  by_cases hlt:k<s.size
  ·cases ha:Qas s[k].toNat
   ·go_wp2_with (first | (go_at_call 114;refine(Qc3 _ _).mono ?_;rintro e w'⟨rfl,rfl⟩) | (go_at_call 115;refine(Qhl _ _).mono ?_;rintro e w'⟨rfl,rfl⟩))
    try rw[Exit.noGoto_ret]
    go_ret2
    obtain⟨h1,h2⟩:=HR.out.bad hlt ha;exact⟨Qtj (by rw[h1]) (by rw[h2]),rfl⟩
   ·cases o
    ·by_cases hc:s[k].toNat=35
     ·have hc':((s[k].toNat:Int)==35)=true:=by simp[hc]
      have HC:=hQ hc;clear hc;go_wp2_with (first | (go_at_call 114;refine(Qc3 _ _).mono ?_;rintro e w'⟨rfl,rfl⟩) | (go_at_call 115;refine(Qhl _ _).mono ?_;rintro e w'⟨rfl,rfl⟩))
      go_round
      case rel=>exact⟨k+1,true,by omega,by go_num,rfl,HR.out.opens hlt HC.out⟩
      case measure=>simp[intOf];omega
     ·have hc':((s[k].toNat:Int)==35)=false:=by simp;omega
      have HC:=hQ hc;clear hc
      cases hw:Qef s[k].toNat
      ·go_wp2_with (first | (go_at_call 114;refine(Qc3 _ _).mono ?_;rintro e w'⟨rfl,rfl⟩) | (go_at_call 115;refine(Qhl _ _).mono ?_;rintro e w'⟨rfl,rfl⟩))
       try rw[Exit.noGoto_ret]
       go_ret2
       obtain⟨h1,h2⟩:=HR.out.other hlt hw HC.out;exact⟨Qtj (by rw[h1]) (by rw[h2]),rfl⟩
      ·go_wp2_with (first | (go_at_call 114;refine(Qc3 _ _).mono ?_;rintro e w'⟨rfl,rfl⟩) | (go_at_call 115;refine(Qhl _ _).mono ?_;rintro e w'⟨rfl,rfl⟩))
       go_round
       case rel=>exact⟨k+1,false,by omega,by go_num,rfl,HR.out.white hlt hw⟩
       case measure=>simp[intOf];omega
    ·go_wp2_with (first | (go_at_call 114;refine(Qc3 _ _).mono ?_;rintro e w'⟨rfl,rfl⟩) | (go_at_call 115;refine(Qhl _ _).mono ?_;rintro e w'⟨rfl,rfl⟩))
     go_round
     case rel=>exact⟨k+1,(s[k].toNat != 10),by omega,by go_num,by rw[Zip],HR.out.inside hlt ha⟩
     case measure=>simp[intOf];omega
  ·go_wp2
   try rw[Exit.noGoto_ret]
   go_ret2
   obtain⟨h1,h2⟩:=HR.out.done hlt;exact⟨Qtj (by rw[h1]) (by rw[h2]),rfl⟩
theorem Qdz(s:yD):suf s 0=s.toList:=by
 unfold suf;rw[ByteArray.toList_eq];rfl
theorem Qb3{t:Tk}{x y z:Int}(a b c:Nat)(h:t=⟨a,b,c⟩)(hx:x=a)(hy:y=b)(hz:z=c):Ending.returned (.tuple #[.int .i64 x,.int .i64 y,.int .i64 z]) = .returned (.tuple #[.int .i64 t.kind,.int .i64 t.n,.int .i64 t.e]):=by
 subst h hx hy hz;rfl
theorem Qcl{a b:Int}(h:a=b):Ending.returned (.int .i64 a) = .returned (.int .i64 b):=by rw[h]
theorem Qes(s:yD)(k:Nat)(h:k<s.size):at' (suf s 0) k=s[k].toNat:=by
 rw[Qjn s 0 k (by omega)];simp
theorem Ql4(s:yD)(w:World):Calls prog 152 #[.string s] w fun e w'=>e = .returned (.bool (Qau (suf s 0)))/\w=w':=by
 go_enter func152,ntmps152;go_wp2
 all_goals
  go_ret;exact⟨Qaj (by rw[Qdz];simp_all [Qau,reservedWords]),rfl⟩
theorem Qdh(s:yD)(w:World)(hs:s.size<=maxLen) :
  Calls prog 151 #[.string s] w fun e w'=>e = .returned (.int .i64 (Qac (suf s 0):Nat))/\w=w':=by
 unfold maxLen at hs;have hst:=hQ (RunAt.start Qhh s 0 (xZ _));go_enter func151,ntmps151;go_wp2
 go_loop [3] (fun a=>∃ (k:Nat),k<=s.size/\a = .int .i64 k/\RunAt Qhh s 0 k) (fun a=>s.size-(intOf a).toNat)
 case atStart=>exact⟨0,xZ _,rfl,hst.out⟩
 case round =>
  obtain⟨k,hk,rfl,hrel⟩:=hrel;have HR:=hQ hrel;clear hrel hst
  by_cases hlt:k<s.size
  ·have HW:=hQ (show Qhh s[k].toNat=(Qax s[k].toNat || Qb8 s[k].toNat || (s[k].toNat:Int)==95) from rfl)
   cases hl:Qax s[k].toNat
   ·cases hd:Qb8 s[k].toNat
    ·cases h95:((s[k].toNat:Int)==95)
     ·go_wp2_with (first | (go_at_call 116;refine(Qb5 _ _).mono ?_;rintro e w'⟨rfl,rfl⟩) | (go_at_call 118;refine(Qdq _ _).mono ?_;rintro e w'⟨rfl,rfl⟩))
      go_ret;have h1:=HR.out.stop hlt (by rw[HW.out,hl,hd,h95];rfl);exact⟨Qcl (by unfold Qac;omega),rfl⟩
     ·go_wp2_with (first | (go_at_call 116;refine(Qb5 _ _).mono ?_;rintro e w'⟨rfl,rfl⟩) | (go_at_call 118;refine(Qdq _ _).mono ?_;rintro e w'⟨rfl,rfl⟩))
      go_round
      case rel=>exact⟨k+1,by omega,by go_num,HR.out.next hlt (by rw[HW.out,hl,hd,h95];rfl)⟩
      case measure=>simp[intOf];omega
    ·go_wp2_with (first | (go_at_call 116;refine(Qb5 _ _).mono ?_;rintro e w'⟨rfl,rfl⟩) | (go_at_call 118;refine(Qdq _ _).mono ?_;rintro e w'⟨rfl,rfl⟩))
     go_round
     case rel=>exact⟨k+1,by omega,by go_num,HR.out.next hlt (by rw[HW.out,hl,hd];rfl)⟩
     case measure=>simp[intOf];omega
   ·go_wp2_with (first | (go_at_call 116;refine(Qb5 _ _).mono ?_;rintro e w'⟨rfl,rfl⟩) | (go_at_call 118;refine(Qdq _ _).mono ?_;rintro e w'⟨rfl,rfl⟩))
    go_round
    case rel=>exact⟨k+1,by omega,by go_num,HR.out.next hlt (by rw[HW.out,hl];rfl)⟩
    case measure=>simp[intOf];omega
  ·go_wp2;go_ret;have h1:=HR.out.done hlt;exact⟨Qcl (by unfold Qac;omega),rfl⟩
theorem Qhm(s:yD)(w:World)(h0:0<s.size)(hs:s.size<=maxLen) :
  Calls prog 119 #[.string s] w fun e w'=>e = .returned (.tuple #[.int .i64 (Qjm (suf s 0)).kind,.int .i64 (Qjm (suf s 0)).n,.int .i64 (Qjm (suf s 0)).e])/\w=w':=by
 unfold maxLen at hs;have hst:=hQ (RunAt.start Qb8 s 0 (xZ _));have H0:=hQ (Qes s 0 h0);go_enter func119,ntmps119;go_wp2
 go_loop [3] (fun a=>∃ (k:Nat),k<=s.size/\a = .int .i64 k/\RunAt Qb8 s 0 k) (fun a=>s.size-(intOf a).toNat)
 case atStart=>exact⟨0,xZ _,rfl,hst.out⟩
 case round =>
  obtain⟨k,hk,rfl,hrel⟩:=hrel;have HR:=hQ hrel;clear hrel hst
  by_cases hgo:∃ h:k<s.size,Qb8 s[k].toNat=true
  ·obtain⟨hlt,hd⟩:=hgo;go_wp2_with (first | (go_at_call 116;refine(Qb5 _ _).mono ?_;rintro e w'⟨rfl,rfl⟩) | (go_at_call 118;refine(Qdq _ _).mono ?_;rintro e w'⟨rfl,rfl⟩))
   go_round
   case rel=>exact⟨k+1,by omega,by go_num,HR.out.next hlt hd⟩
   case measure=>simp[intOf];omega
  ·have HN:Hid (Qdw (suf s 0)=k):=by
    unfold Qdw
    by_cases hlt:k<s.size
    ·have:=HR.out.stop hlt (by simpa using fun h=>hgo ⟨hlt,h⟩)
     exact hQ (by omega)
    ·have:=HR.out.done hlt
     exact hQ (by omega)
   by_cases h1:1<k
   ·by_cases h48:s[0].toNat=48
    ·have h48':((s[0].toNat:Int)==48)=true:=by simp[h48]
     have H48:=hQ h48;clear h48;by_cases hlt:k<s.size
     all_goals
      first | (have hd:Qb8 s[k].toNat=false:=by simpa using fun h=>hgo ⟨hlt,h⟩) | skip
      clear hgo;go_wp2_with (first | (go_at_call 116;refine(Qb5 _ _).mono ?_;rintro e w'⟨rfl,rfl⟩) | (go_at_call 118;refine(Qdq _ _).mono ?_;rintro e w'⟨rfl,rfl⟩))
      go_ret3;exact⟨Qb3 0 0 2 (by unfold Qjm;rw[xO ⟨by rw[HN.out];exact h1,by rw[H0.out,H48.out]⟩]) rfl rfl rfl,rfl⟩
    ·have h48':((s[0].toNat:Int)==48)=false:=by simp;omega
     have H48:=hQ h48;clear h48;have HE:=hQ (show ¬ (1<Qdw (suf s 0)/\at' (suf s 0) 0=48) from fun h=>H48.out (by rw[<-H0.out];exact h.2));by_cases h15:15<k
     all_goals
      by_cases hlt:k<s.size
      all_goals
       first | (have hd:Qb8 s[k].toNat=false:=by simpa using fun h=>hgo ⟨hlt,h⟩) | skip
       clear hgo;go_wp2_with (first | (go_at_call 116;refine(Qb5 _ _).mono ?_;rintro e w'⟨rfl,rfl⟩) | (go_at_call 118;refine(Qdq _ _).mono ?_;rintro e w'⟨rfl,rfl⟩))
       go_ret3
       first
        | exact⟨Qb3 0 0 3 (by unfold Qjm;rw[xN HE.out,HN.out,xO h15]) rfl rfl rfl,rfl⟩
        | exact⟨Qb3 5 k 0 (by unfold Qjm;rw[xN HE.out,HN.out,xN h15]) rfl rfl rfl,rfl⟩
   ·have HE:=hQ (show ¬ (1<Qdw (suf s 0)/\at' (suf s 0) 0=48) from fun h=>h1 (by rw[<-HN.out];exact h.1));by_cases hlt:k<s.size
    all_goals
     first | (have hd:Qb8 s[k].toNat=false:=by simpa using fun h=>hgo ⟨hlt,h⟩) | skip
     clear hgo;go_wp2_with (first | (go_at_call 116;refine(Qb5 _ _).mono ?_;rintro e w'⟨rfl,rfl⟩) | (go_at_call 118;refine(Qdq _ _).mono ?_;rintro e w'⟨rfl,rfl⟩))
     go_ret3;exact⟨Qb3 5 k 0 (by unfold Qjm;rw[xN HE.out,HN.out,xN (by omega)]) rfl rfl rfl,rfl⟩
def QuotAt(s:yD)(a k:Nat):Prop:=a+1<=k/\k<=s.size/\Qc4 1 (suf s (a+1))=Qc4 (k-a) (suf s k)
theorem QuotAt.start(s:yD)(a:Nat)(h:a<s.size):QuotAt s a (a+1):=⟨xA _,h,by rw[show a+1-a=1 from by omega]⟩
section
variable {s:yD} {a k:Nat}
theorem QuotAt.done(h:QuotAt s a k)(hk:¬ k<s.size):Qc4 1 (suf s (a+1))=⟨0,0,2⟩:=by
 rw[h.2.2,Qle s k (by omega),Qc4]
theorem QuotAt.close(h:QuotAt s a k)(hk:k<s.size)(hc:s[k].toNat=34):Qc4 1 (suf s (a+1))=⟨6,k-a+1,0⟩:=by
 rw[h.2.2,Qdd s k hk,Qc4,xO hc]
theorem QuotAt.stop(h:QuotAt s a k)(hk:k<s.size)(h34:s[k].toNat≠34)(hc:s[k].toNat=92\/s[k].toNat=9\/s[k].toNat=10\/s[k].toNat=13):Qc4 1 (suf s (a+1))=⟨0,0,2⟩:=by
 rw[h.2.2,Qdd s k hk,Qc4,xN h34,xO hc]
theorem QuotAt.bad(h:QuotAt s a k)(hk:k<s.size)(h34:s[k].toNat≠34)(hc:¬ (s[k].toNat=92\/s[k].toNat=9\/s[k].toNat=10\/s[k].toNat=13))(ha:Qas s[k].toNat=false):Qc4 1 (suf s (a+1))=⟨0,k-a,1⟩:=by
 rw[h.2.2,Qdd s k hk,Qc4,xN h34,xN hc,xN (by simp[ha])]
theorem QuotAt.next(h:QuotAt s a k)(hk:k<s.size)(h34:s[k].toNat≠34)(hc:¬ (s[k].toNat=92\/s[k].toNat=9\/s[k].toNat=10\/s[k].toNat=13))(ha:Qas s[k].toNat=true):QuotAt s a (k+1):=by
 refine⟨by have:=h.1;omega,by omega,?_⟩;rw[h.2.2,Qdd s k hk,Qc4,xN h34,xN hc,xO ha,show k-a+1=k+1-a from by have:=h.1;omega]
end
theorem Qdb{n m:Nat}(h:n=m):((n:Int)==(m:Int))=true:=by simp[h]
theorem Qdy{n m:Nat}(h:n≠m):((n:Int)==(m:Int))=false:=by simp;omega
theorem Qhn(s:yD)(w:World)(h0:0<s.size)(hs:s.size<=maxLen) :
  Calls prog 120 #[.string s] w fun e w'=>e = .returned (.tuple #[.int .i64 (Qc4 1 (suf s 1)).kind,.int .i64 (Qc4 1 (suf s 1)).n,.int .i64 (Qc4 1 (suf s 1)).e])/\w=w':=by
 unfold maxLen at hs;have hst:=hQ (QuotAt.start s 0 h0);go_enter func120,ntmps120;go_wp2
 go_loop [5] (fun a=>∃ (k:Nat),1<=k/\k<=s.size/\a = .int .i64 k/\QuotAt s 0 k) (fun a=>s.size-(intOf a).toNat)
 case atStart=>exact⟨1,xA _,h0,rfl,hst.out⟩
 case round =>
  obtain⟨k,h1,hk,rfl,hrel⟩:=hrel;have HR:=hQ hrel;clear hrel hst
  by_cases hlt:k<s.size
  ·by_cases h34:s[k].toNat=34
   ·have g34:((s[k].toNat:Int)==34)=true:=Qdb h34;have H34:=hQ h34;clear h34;go_wp2;go_ret3;exact⟨Qb3 6 (k+1) 0 (HR.out.close hlt H34.out) rfl (by omega) rfl,rfl⟩
   ·have g34:((s[k].toNat:Int)==34)=false:=Qdy h34;have H34:=hQ h34;clear h34
    by_cases hstop:s[k].toNat=92\/s[k].toNat=9\/s[k].toNat=10\/s[k].toNat=13
    ·have HS:=hQ hstop
     rcases hstop with h | h | h | h
     ·have g1:((s[k].toNat:Int)==92)=true:=Qdb h;clear h;go_wp2;go_ret3;exact⟨Qb3 0 0 2 (HR.out.stop hlt H34.out HS.out) rfl rfl rfl,rfl⟩
     ·have g1:((s[k].toNat:Int)==92)=false:=Qdy (m:=92) (by omega);have g2:((s[k].toNat:Int)==9)=true:=Qdb h;clear h;go_wp2;go_ret3;exact⟨Qb3 0 0 2 (HR.out.stop hlt H34.out HS.out) rfl rfl rfl,rfl⟩
     ·have g1:((s[k].toNat:Int)==92)=false:=Qdy (m:=92) (by omega);have g2:((s[k].toNat:Int)==9)=false:=Qdy (m:=9) (by omega);have g3:((s[k].toNat:Int)==10)=true:=Qdb h;clear h;go_wp2;go_ret3;exact⟨Qb3 0 0 2 (HR.out.stop hlt H34.out HS.out) rfl rfl rfl,rfl⟩
     ·have g1:((s[k].toNat:Int)==92)=false:=Qdy (m:=92) (by omega);have g2:((s[k].toNat:Int)==9)=false:=Qdy (m:=9) (by omega);have g3:((s[k].toNat:Int)==10)=false:=Qdy (m:=10) (by omega);have g4:((s[k].toNat:Int)==13)=true:=Qdb h;clear h;go_wp2;go_ret3;exact⟨Qb3 0 0 2 (HR.out.stop hlt H34.out HS.out) rfl rfl rfl,rfl⟩
    ·have g1:((s[k].toNat:Int)==92)=false:=Qdy (fun h=>hstop (.inl h));have g2:((s[k].toNat:Int)==9)=false:=Qdy (fun h=>hstop (.inr (.inl h)));have g3:((s[k].toNat:Int)==10)=false:=Qdy (fun h=>hstop (.inr (.inr (.inl h))));have g4:((s[k].toNat:Int)==13)=false:=Qdy (fun h=>hstop (.inr (.inr (.inr h))));have HS:=hQ hstop;clear hstop
     cases ha:Qas s[k].toNat
     ·go_wp2_with (go_at_call 114;refine(Qc3 _ _).mono ?_;rintro e w'⟨rfl,rfl⟩)
      go_ret3;exact⟨Qb3 0 k 1 (HR.out.bad hlt H34.out HS.out ha) rfl (by omega) rfl,rfl⟩
     ·go_wp2_with (go_at_call 114;refine(Qc3 _ _).mono ?_;rintro e w'⟨rfl,rfl⟩)
      go_round
      case rel=>exact⟨k+1,by omega,by omega,by go_num,HR.out.next hlt H34.out HS.out ha⟩
      case measure=>simp[intOf];omega
  ·go_wp2;go_ret3;exact⟨Qb3 0 0 2 (HR.out.done hlt) rfl rfl rfl,rfl⟩
theorem Qtk(s:yD)(h0:0<s.size)(h:s[0].toNat=61)(h1:1<s.size)(h2:s[1].toNat=61):Qee (suf s 0)=⟨8,2,0⟩:=by
 have:Qbz (suf s 0)=2:=by unfold Qbz;rw[Qes s 0 h0,xO h,Qes s 1 h1,xO h2]
 unfold Qee;rw[this,xN (by decide)]
theorem Qom(s:yD)(h0:0<s.size)(h:s[0].toNat=61)(h1:∀ h:1<s.size,s[1].toNat≠61):Qee (suf s 0)=⟨8,1,0⟩:=by
 have:Qbz (suf s 0)=1:=by
  unfold Qbz;rw[Qes s 0 h0,xO h]
  by_cases h2:1<s.size
  ·rw[Qes s 1 h2,xN (h1 h2)]
  ·unfold at';rw[List.getD_eq_getElem?_getD,List.getElem?_eq_none (by rw[Qb4];omega)]
   decide
 unfold Qee;rw[this,xN (by decide)]
theorem Qtl(s:yD)(h0:0<s.size)(h:s[0].toNat≠61)(h1:Qe6 s[0].toNat=true):Qee (suf s 0)=⟨8,1,0⟩:=by
 have:Qbz (suf s 0)=1:=by unfold Qbz;rw[Qes s 0 h0,xN h,xO h1]
 unfold Qee;rw[this,xN (by decide)]
theorem Qrb(s:yD)(h0:0<s.size)(h:s[0].toNat≠61)(h1:Qe6 s[0].toNat=false):Qee (suf s 0)=⟨0,0,2⟩:=by
 have:Qbz (suf s 0)=0:=by unfold Qbz;rw[Qes s 0 h0,xN h,xN (by simp[h1])]
 unfold Qee;rw[this,xO rfl]
theorem Qj9(s:yD)(w:World)(h0:0<s.size)(_hs:s.size<=maxLen) :
  Calls prog 121 #[.string s] w fun e w'=>e = .returned (.tuple #[.int .i64 (Qee (suf s 0)).kind,.int .i64 (Qee (suf s 0)).n,.int .i64 (Qee (suf s 0)).e])/\w=w':=by
 by_cases h61:s[0].toNat=61
 ·have g61:((s[0].toNat:Int)==61)=true:=Qdb h61;have H61:=hQ h61;clear h61
  by_cases h1:1<s.size
  ·by_cases h2:s[1].toNat=61
   ·have g2:((s[1].toNat:Int)==61)=true:=Qdb h2;have H2:=hQ h2;clear h2;go_enter func121,ntmps121;go_wp2;go_ret3;exact⟨Qb3 8 2 0 (Qtk s h0 H61.out h1 H2.out) rfl rfl rfl,rfl⟩
   ·have g2:((s[1].toNat:Int)==61)=false:=Qdy h2;have H2:=hQ h2;clear h2;go_enter func121,ntmps121;go_wp2;go_ret3;exact⟨Qb3 8 1 0 (Qom s h0 H61.out (fun _=>H2.out)) rfl rfl rfl,rfl⟩
  ·go_enter func121,ntmps121;go_wp2;go_ret3;exact⟨Qb3 8 1 0 (Qom s h0 H61.out (fun h=>absurd h h1)) rfl rfl rfl,rfl⟩
 ·have g61:((s[0].toNat:Int)==61)=false:=Qdy h61;have H61:=hQ h61;clear h61
  cases ho:Qe6 s[0].toNat
  ·have H1:=hQ ho;simp only[Qe6,Bool.or_eq_false_iff,and_assoc]at ho;obtain⟨a1,a2,a3,a4,a5,a6,a7,a8,a9,a10,a11⟩:=ho;go_enter func121,ntmps121;go_wp2;go_ret3;exact⟨Qb3 0 0 2 (Qrb s h0 H61.out H1.out) rfl rfl rfl,rfl⟩
  ·have H1:=hQ ho;clear ho;go_enter func121,ntmps121;go_wp2
   all_goals
    first
     | (go_ret3;exact⟨Qb3 8 1 0 (Qtl s h0 H61.out H1.out) rfl rfl rfl,rfl⟩)
     | (exfalso;have:=H1.out;simp_all [Qe6])
theorem Qm1(s:yD)(a:Nat)(w:World)(hs:s.size<=maxLen) :
  Calls prog 151 #[.string (s.extract a s.size)] w fun e w'=>e = .returned (.int .i64 (Qac (suf s a):Nat))/\w=w':=by
 rw[<-Qhj s a];exact Qdh _ w (by rw[ByteArray.size_extract];omega)
theorem Qp3(s:yD)(a m:Nat)(w:World) :
  Calls prog 152 #[.string ((s.extract a s.size).extract 0 m)] w fun e w'=>e = .returned (.bool (Qau ((suf s a).take m)))/\w=w':=by
 have h:=Ql4 ((s.extract a s.size).extract 0 m) w;rw[Qeg,Qhj]at h;exact h
theorem Qcg(s:yD)(a:Nat):Qac (suf s a)<=s.size-a:=by
 have:=Qmx Qhh (suf s a)
 rw[Qb4]at this;exact this
theorem Qtm(s:yD)(a k:Nat):at' (suf s a) k=at' (suf s 0) (a+k):=by
 unfold at' suf;rw[List.getD_eq_getElem?_getD,List.getD_eq_getElem?_getD,List.getElem?_drop,List.getElem?_drop,Nat.zero_add]
theorem Qu9(s:yD)(a:Nat)(h:0<(s.extract a s.size).size):(s.extract a s.size)[0].toNat=at' (suf s 0) a:=by
 rw[<-Qes _ 0 h,Qhj,Qtm];rfl
theorem Qka(s:yD)(a:Nat)(h:a<s.size):0<(s.extract a s.size).size:=by
 rw[ByteArray.size_extract];omega
section
variable (s:yD) (n:Nat)
theorem Qzz(h:24<n\/24<Qac (suf s (n+1))):Qda (suf s 0) n=⟨0,0,3⟩:=by
 unfold Qda;rw[Qe1,Nat.zero_add,xO h]
theorem Zfm(h:¬ (24<n\/24<Qac (suf s (n+1))))(hr:Qau ((suf s (n+1)).take (Qac (suf s (n+1))))=true):Qda (suf s 0) n=⟨0,0,2⟩:=by
 unfold Qda;rw[Qe1,Nat.zero_add,xN h,xO hr]
theorem Ziq(h:¬ (24<n\/24<Qac (suf s (n+1))))(hr:Qau ((suf s (n+1)).take (Qac (suf s (n+1))))=false)(h0:n+1<s.size)
  (hu:Qbx ((s.extract (n+1) s.size)[0]'(Qka s _ h0)).toNat=true):Qda (suf s 0) n=⟨4,n+1+Qac (suf s (n+1)),0⟩:=by
 rw[Qu9 s (n+1) (Qka s _ h0)]at hu;unfold Qda;rw[Qe1,Nat.zero_add,xN h,xN (by simp[hr]),xO hu]
theorem Zfn(h:¬ (24<n\/24<Qac (suf s (n+1))))(hr:Qau ((suf s (n+1)).take (Qac (suf s (n+1))))=false)(h0:n+1<s.size)
  (hu:Qbx ((s.extract (n+1) s.size)[0]'(Qka s _ h0)).toNat=false):Qda (suf s 0) n=⟨3,n+1+Qac (suf s (n+1)),0⟩:=by
 rw[Qu9 s (n+1) (Qka s _ h0)]at hu;unfold Qda;rw[Qe1,Nat.zero_add,xN h,xN (by simp[hr]),xN (by simp[hu])]
end
theorem Qen(s:yD)(n:Nat)(w:World)(h0:n+1<s.size)(hs:s.size<=maxLen) :
  Calls prog 153 #[.string s,.int .i64 n] w fun e w'=>e = .returned (.tuple #[.int .i64 (Qda (suf s 0) n).kind,.int .i64 (Qda (suf s 0) n).n,.int .i64 (Qda (suf s 0) n).e])/\w=w':=by
 have HS:=hQ hs;have hm:=Qcg s (n+1);unfold maxLen at hs;go_enter func153,ntmps153;go_wp2_with (first | (go_at_call 151;refine(Qm1 _ _ _ HS.out).mono ?_;rintro e w'⟨rfl,rfl⟩) | (go_at_call 152;refine(Qp3 _ _ _ _).mono ?_;rintro e w'⟨rfl,rfl⟩) | (go_at_call 150;refine(Qf1 _ _).mono ?_;rintro e w'⟨rfl,rfl⟩))
 all_goals
  go_ret3
  first
   | exact⟨Qb3 0 0 3 (Qzz s n (by omega)) rfl rfl rfl,rfl⟩
   | exact⟨Qb3 0 0 2 (Zfm s n (by omega) (by assumption)) rfl rfl rfl,rfl⟩
   | exact⟨Qb3 4 (n+1+Qac (suf s (n+1))) 0 (Ziq s n (by omega) (by assumption) h0 (by assumption)) rfl (by omega) rfl,rfl⟩
   | exact⟨Qb3 3 (n+1+Qac (suf s (n+1))) 0 (Zfn s n (by omega) (by assumption) h0 (by assumption)) rfl (by omega) rfl,rfl⟩
theorem Qeo(s:yD)(m:Nat)(w:World) :
  Calls prog 152 #[.string (s.extract 0 m)] w fun e w'=>e = .returned (.bool (Qau ((suf s 0).take m)))/\w=w':=by
 have h:=Ql4 (s.extract 0 m) w;rw[Qeg,Nat.sub_zero]at h;exact h
theorem Qdi{l:List UInt8}(h:Qc9 l=false):Qdp l=Qdx l:=by
 unfold Qdp;rw[xN (by simp[h])]
section
variable {l:List UInt8}
theorem Qd5(h:24<Qac l):Qdx l=⟨0,0,3⟩:=by
 unfold Qdx;rw[xO h]
theorem Qev(h:¬ 24<Qac l)(hr:Qau (l.take (Qac l))=true):Qdx l=⟨7,Qac l,0⟩:=by
 unfold Qdx;rw[xN h,xO hr]
theorem Qfx(h:¬ 24<Qac l)(hr:Qau (l.take (Qac l))=false)(hu:Qbx (at' l 0)=true):Qdx l=⟨2,Qac l,0⟩:=by
 unfold Qdx;rw[xN h,xN (by simp[hr]),xO hu]
theorem Qew(h:¬ 24<Qac l)(hr:Qau (l.take (Qac l))=false)(hu:Qbx (at' l 0)=false):Qdx l=⟨1,Qac l,0⟩:=by
 unfold Qdx;rw[xN h,xN (by simp[hr]),xN (by simp[hu])]
end
theorem Qkb(s:yD)(w:World)(h0:0<s.size)(hs:s.size<maxLen) :
  Calls prog 117 #[.string s] w fun e w'=>e = .returned (.tuple #[.int .i64 (Qdp (suf s 0)).kind,.int .i64 (Qdp (suf s 0)).n,.int .i64 (Qdp (suf s 0)).e])/\w=w':=by
 have HS:=hQ (Nat.le_of_lt hs);have hm:=Qcg s 0;have H0:=hQ (Qes s 0 h0);have HL:=hQ (Qb4 s 0);have HD:=hQ (show Qc9 (suf s 0)=(Qbx (at' (suf s 0) 0) && !Qau ((suf s 0).take (Qac (suf s 0))) && decide (Qac (suf s 0)+1<(suf s 0).length) && at' (suf s 0) (Qac (suf s 0))==46 && Qax (at' (suf s 0) (Qac (suf s 0)+1))) from rfl);unfold maxLen at hs
 cases hu:Qbx s[0].toNat
 ·cases hr:Qau ((suf s 0).take (Qac (suf s 0)))
  all_goals
   have HP:=hQ (Qdi (show Qc9 (suf s 0)=false from by rw[HD.out,H0.out,hu];rfl));by_cases h24:24<Qac (suf s 0)
   all_goals
    go_enter func117,ntmps117;go_wp2_with (first | (go_at_call 151;refine(Qdh _ _ HS.out).mono ?_;rintro e w'⟨rfl,rfl⟩) | (go_at_call 152;refine(Qeo _ _ _).mono ?_;rintro e w'⟨rfl,rfl⟩) | (go_at_call 150;refine(Qf1 _ _).mono ?_;rintro e w'⟨rfl,rfl⟩) | (go_at_call 116;refine(Qb5 _ _).mono ?_;rintro e w'⟨rfl,rfl⟩) | (go_at_call 153;refine(Qen _ _ _ hn HS.out).mono ?_;rintro e w'⟨rfl,rfl⟩))
    go_ret3
    first
     | exact⟨Qb3 0 0 3 (HP.out.trans (Qd5 h24)) rfl rfl rfl,rfl⟩
     | exact⟨Qb3 7 (Qac (suf s 0)) 0 (HP.out.trans (Qev h24 hr)) rfl rfl rfl,rfl⟩
     | exact⟨Qb3 2 (Qac (suf s 0)) 0 (HP.out.trans (Qfx h24 hr (by rw[H0.out];exact hu))) rfl rfl rfl,rfl⟩
     | exact⟨Qb3 1 (Qac (suf s 0)) 0 (HP.out.trans (Qew h24 hr (by rw[H0.out];exact hu))) rfl rfl rfl,rfl⟩

 ·cases hr:Qau ((suf s 0).take (Qac (suf s 0)))
  ·by_cases hn:Qac (suf s 0)+1<s.size
   ·have hn':((Qac (suf s 0):Nat):Int)+1<(s.size:Int):=by omega
    by_cases h46:s[Qac (suf s 0)].toNat=46
    ·have g46:((s[Qac (suf s 0)].toNat:Int)==46)=true:=Qdb h46;have H46:=hQ h46;clear h46
     cases hl:Qax s[Qac (suf s 0)+1].toNat
     ·have HP:=hQ (Qdi (show Qc9 (suf s 0)=false from by rw[HD.out,Qes s (Qac (suf s 0)+1) hn,hl];simp));by_cases h24:24<Qac (suf s 0)
      all_goals
       go_enter func117,ntmps117;go_wp2_with (first | (go_at_call 151;refine(Qdh _ _ HS.out).mono ?_;rintro e w'⟨rfl,rfl⟩) | (go_at_call 152;refine(Qeo _ _ _).mono ?_;rintro e w'⟨rfl,rfl⟩) | (go_at_call 150;refine(Qf1 _ _).mono ?_;rintro e w'⟨rfl,rfl⟩) | (go_at_call 116;refine(Qb5 _ _).mono ?_;rintro e w'⟨rfl,rfl⟩) | (go_at_call 153;refine(Qen _ _ _ hn HS.out).mono ?_;rintro e w'⟨rfl,rfl⟩))
       go_ret3
       first
        | exact⟨Qb3 0 0 3 (HP.out.trans (Qd5 h24)) rfl rfl rfl,rfl⟩
        | exact⟨Qb3 7 (Qac (suf s 0)) 0 (HP.out.trans (Qev h24 hr)) rfl rfl rfl,rfl⟩
        | exact⟨Qb3 2 (Qac (suf s 0)) 0 (HP.out.trans (Qfx h24 hr (by rw[H0.out];exact hu))) rfl rfl rfl,rfl⟩
        | exact⟨Qb3 1 (Qac (suf s 0)) 0 (HP.out.trans (Qew h24 hr (by rw[H0.out];exact hu))) rfl rfl rfl,rfl⟩

     ·have HT:=hQ (show Qdp (suf s 0)=Qda (suf s 0) (Qac (suf s 0)) from by
       unfold Qdp;rw[xO (by rw[HD.out,HL.out,H0.out,hu,hr,Qes s _ (by omega),H46.out,Qes s _ hn,hl];simpa using hn)])
      go_enter func117,ntmps117;go_wp2_with (first | (go_at_call 151;refine(Qdh _ _ HS.out).mono ?_;rintro e w'⟨rfl,rfl⟩) | (go_at_call 152;refine(Qeo _ _ _).mono ?_;rintro e w'⟨rfl,rfl⟩) | (go_at_call 150;refine(Qf1 _ _).mono ?_;rintro e w'⟨rfl,rfl⟩) | (go_at_call 116;refine(Qb5 _ _).mono ?_;rintro e w'⟨rfl,rfl⟩) | (go_at_call 153;refine(Qen _ _ _ hn HS.out).mono ?_;rintro e w'⟨rfl,rfl⟩))
      go_ret3;exact⟨Qb3 _ _ _ HT.out rfl rfl rfl,rfl⟩
    ·have g46:((s[Qac (suf s 0)].toNat:Int)==46)=false:=Qdy h46;have H47:=hQ h46;clear h46;have HP:=hQ (Qdi (show Qc9 (suf s 0)=false from by rw[HD.out,Qes s (Qac (suf s 0)) (by omega),beq_eq_false_iff_ne.2 H47.out];simp));by_cases h24:24<Qac (suf s 0)
     all_goals
      go_enter func117,ntmps117;go_wp2_with (first | (go_at_call 151;refine(Qdh _ _ HS.out).mono ?_;rintro e w'⟨rfl,rfl⟩) | (go_at_call 152;refine(Qeo _ _ _).mono ?_;rintro e w'⟨rfl,rfl⟩) | (go_at_call 150;refine(Qf1 _ _).mono ?_;rintro e w'⟨rfl,rfl⟩) | (go_at_call 116;refine(Qb5 _ _).mono ?_;rintro e w'⟨rfl,rfl⟩) | (go_at_call 153;refine(Qen _ _ _ hn HS.out).mono ?_;rintro e w'⟨rfl,rfl⟩))
      go_ret3
      first
       | exact⟨Qb3 0 0 3 (HP.out.trans (Qd5 h24)) rfl rfl rfl,rfl⟩
       | exact⟨Qb3 7 (Qac (suf s 0)) 0 (HP.out.trans (Qev h24 hr)) rfl rfl rfl,rfl⟩
       | exact⟨Qb3 2 (Qac (suf s 0)) 0 (HP.out.trans (Qfx h24 hr (by rw[H0.out];exact hu))) rfl rfl rfl,rfl⟩
       | exact⟨Qb3 1 (Qac (suf s 0)) 0 (HP.out.trans (Qew h24 hr (by rw[H0.out];exact hu))) rfl rfl rfl,rfl⟩

   ·have hn':¬ ((Qac (suf s 0):Nat):Int)+1<(s.size:Int):=by omega
    have HP:=hQ (Qdi (show Qc9 (suf s 0)=false from by rw[HD.out,HL.out,Nat.sub_zero,xR hn];simp));by_cases h24:24<Qac (suf s 0)
    all_goals
     go_enter func117,ntmps117;go_wp2_with (first | (go_at_call 151;refine(Qdh _ _ HS.out).mono ?_;rintro e w'⟨rfl,rfl⟩) | (go_at_call 152;refine(Qeo _ _ _).mono ?_;rintro e w'⟨rfl,rfl⟩) | (go_at_call 150;refine(Qf1 _ _).mono ?_;rintro e w'⟨rfl,rfl⟩) | (go_at_call 116;refine(Qb5 _ _).mono ?_;rintro e w'⟨rfl,rfl⟩) | (go_at_call 153;refine(Qen _ _ _ hn HS.out).mono ?_;rintro e w'⟨rfl,rfl⟩))
     go_ret3
     first
      | exact⟨Qb3 0 0 3 (HP.out.trans (Qd5 h24)) rfl rfl rfl,rfl⟩
      | exact⟨Qb3 7 (Qac (suf s 0)) 0 (HP.out.trans (Qev h24 hr)) rfl rfl rfl,rfl⟩
      | exact⟨Qb3 2 (Qac (suf s 0)) 0 (HP.out.trans (Qfx h24 hr (by rw[H0.out];exact hu))) rfl rfl rfl,rfl⟩
      | exact⟨Qb3 1 (Qac (suf s 0)) 0 (HP.out.trans (Qew h24 hr (by rw[H0.out];exact hu))) rfl rfl rfl,rfl⟩

  ·have HP:=hQ (Qdi (show Qc9 (suf s 0)=false from by rw[HD.out,hr];simp));by_cases h24:24<Qac (suf s 0)
   all_goals
    go_enter func117,ntmps117;go_wp2_with (first | (go_at_call 151;refine(Qdh _ _ HS.out).mono ?_;rintro e w'⟨rfl,rfl⟩) | (go_at_call 152;refine(Qeo _ _ _).mono ?_;rintro e w'⟨rfl,rfl⟩) | (go_at_call 150;refine(Qf1 _ _).mono ?_;rintro e w'⟨rfl,rfl⟩) | (go_at_call 116;refine(Qb5 _ _).mono ?_;rintro e w'⟨rfl,rfl⟩) | (go_at_call 153;refine(Qen _ _ _ hn HS.out).mono ?_;rintro e w'⟨rfl,rfl⟩))
    go_ret3
    first
     | exact⟨Qb3 0 0 3 (HP.out.trans (Qd5 h24)) rfl rfl rfl,rfl⟩
     | exact⟨Qb3 7 (Qac (suf s 0)) 0 (HP.out.trans (Qev h24 hr)) rfl rfl rfl,rfl⟩
     | exact⟨Qb3 2 (Qac (suf s 0)) 0 (HP.out.trans (Qfx h24 hr (by rw[H0.out];exact hu))) rfl rfl rfl,rfl⟩
     | exact⟨Qb3 1 (Qac (suf s 0)) 0 (HP.out.trans (Qew h24 hr (by rw[H0.out];exact hu))) rfl rfl rfl,rfl⟩

theorem Zir(s:yD):(suf s 0).drop 1=suf s 1:=by rw[Qe1]
theorem Qkc(s:yD)(w:World)(h0:0<s.size)(hs:s.size<maxLen) :
  Calls prog 82 #[.string s] w fun e w'=>e = .returned (.tuple #[.int .i64 (Qbl (suf s 0)).kind,.int .i64 (Qbl (suf s 0)).n,.int .i64 (Qbl (suf s 0)).e])/\w=w':=by
 have HS:=hQ hs;have HT:=hQ (Nat.le_of_lt hs);have H0:=hQ (Qes s 0 h0);unfold maxLen at hs
 cases ha:Qas s[0].toNat
 ·go_enter func82,ntmps82;go_wp2_with (first | (go_at_call 114;refine(Qc3 _ _).mono ?_;rintro e w'⟨rfl,rfl⟩) | (go_at_call 116;refine(Qb5 _ _).mono ?_;rintro e w'⟨rfl,rfl⟩) | (go_at_call 118;refine(Qdq _ _).mono ?_;rintro e w'⟨rfl,rfl⟩) | (go_at_call 117;refine(Qkb _ _ h0 HS.out).mono ?_;rintro e w'⟨rfl,rfl⟩) | (go_at_call 119;refine(Qhm _ _ h0 HT.out).mono ?_;rintro e w'⟨rfl,rfl⟩) | (go_at_call 120;refine(Qhn _ _ h0 HT.out).mono ?_;rintro e w'⟨rfl,rfl⟩) | (go_at_call 121;refine(Qj9 _ _ h0 HT.out).mono ?_;rintro e w'⟨rfl,rfl⟩))
  go_ret3;exact⟨Qb3 0 0 1 (by unfold Qbl;rw[H0.out,xO ha]) rfl rfl rfl,rfl⟩
 ·have HA:=hQ (show ¬ Qas (at' (suf s 0) 0)=false from by rw[H0.out,ha];decide)
  cases hl:Qax s[0].toNat
  ·have HL:=hQ (show ¬ Qax (at' (suf s 0) 0)=true from by rw[H0.out,hl];decide)
   cases hd:Qb8 s[0].toNat
   ·have HD:=hQ (show ¬ Qb8 (at' (suf s 0) 0)=true from by rw[H0.out,hd];decide)
    by_cases h34:s[0].toNat=34
    ·have g34:((s[0].toNat:Int)==34)=true:=Qdb h34;have H34:=hQ (show at' (suf s 0) 0=34 from by rw[H0.out,h34]);clear h34;go_enter func82,ntmps82;go_wp2_with (first | (go_at_call 114;refine(Qc3 _ _).mono ?_;rintro e w'⟨rfl,rfl⟩) | (go_at_call 116;refine(Qb5 _ _).mono ?_;rintro e w'⟨rfl,rfl⟩) | (go_at_call 118;refine(Qdq _ _).mono ?_;rintro e w'⟨rfl,rfl⟩) | (go_at_call 117;refine(Qkb _ _ h0 HS.out).mono ?_;rintro e w'⟨rfl,rfl⟩) | (go_at_call 119;refine(Qhm _ _ h0 HT.out).mono ?_;rintro e w'⟨rfl,rfl⟩) | (go_at_call 120;refine(Qhn _ _ h0 HT.out).mono ?_;rintro e w'⟨rfl,rfl⟩) | (go_at_call 121;refine(Qj9 _ _ h0 HT.out).mono ?_;rintro e w'⟨rfl,rfl⟩))
     go_ret3;exact⟨Qb3 _ _ _ (show Qbl (suf s 0)=Qc4 1 (suf s 1) from by unfold Qbl;rw[xN HA.out,xN HL.out,xN HD.out,xO H34.out,Zir]) rfl rfl rfl,rfl⟩
    ·have g34:((s[0].toNat:Int)==34)=false:=Qdy h34;have H34:=hQ (show ¬ at' (suf s 0) 0=34 from by rw[H0.out];exact h34);clear h34;go_enter func82,ntmps82;go_wp2_with (first | (go_at_call 114;refine(Qc3 _ _).mono ?_;rintro e w'⟨rfl,rfl⟩) | (go_at_call 116;refine(Qb5 _ _).mono ?_;rintro e w'⟨rfl,rfl⟩) | (go_at_call 118;refine(Qdq _ _).mono ?_;rintro e w'⟨rfl,rfl⟩) | (go_at_call 117;refine(Qkb _ _ h0 HS.out).mono ?_;rintro e w'⟨rfl,rfl⟩) | (go_at_call 119;refine(Qhm _ _ h0 HT.out).mono ?_;rintro e w'⟨rfl,rfl⟩) | (go_at_call 120;refine(Qhn _ _ h0 HT.out).mono ?_;rintro e w'⟨rfl,rfl⟩) | (go_at_call 121;refine(Qj9 _ _ h0 HT.out).mono ?_;rintro e w'⟨rfl,rfl⟩))
     go_ret3;exact⟨Qb3 _ _ _ (show Qbl (suf s 0)=Qee (suf s 0) from by unfold Qbl;rw[xN HA.out,xN HL.out,xN HD.out,xN H34.out]) rfl rfl rfl,rfl⟩
   ·have HD:=hQ (show Qb8 (at' (suf s 0) 0)=true from by rw[H0.out,hd]);go_enter func82,ntmps82;go_wp2_with (first | (go_at_call 114;refine(Qc3 _ _).mono ?_;rintro e w'⟨rfl,rfl⟩) | (go_at_call 116;refine(Qb5 _ _).mono ?_;rintro e w'⟨rfl,rfl⟩) | (go_at_call 118;refine(Qdq _ _).mono ?_;rintro e w'⟨rfl,rfl⟩) | (go_at_call 117;refine(Qkb _ _ h0 HS.out).mono ?_;rintro e w'⟨rfl,rfl⟩) | (go_at_call 119;refine(Qhm _ _ h0 HT.out).mono ?_;rintro e w'⟨rfl,rfl⟩) | (go_at_call 120;refine(Qhn _ _ h0 HT.out).mono ?_;rintro e w'⟨rfl,rfl⟩) | (go_at_call 121;refine(Qj9 _ _ h0 HT.out).mono ?_;rintro e w'⟨rfl,rfl⟩))
    go_ret3;exact⟨Qb3 _ _ _ (show Qbl (suf s 0)=Qjm (suf s 0) from by unfold Qbl;rw[xN HA.out,xN HL.out,xO HD.out]) rfl rfl rfl,rfl⟩
  ·have HL:=hQ (show Qax (at' (suf s 0) 0)=true from by rw[H0.out,hl]);go_enter func82,ntmps82;go_wp2_with (first | (go_at_call 114;refine(Qc3 _ _).mono ?_;rintro e w'⟨rfl,rfl⟩) | (go_at_call 116;refine(Qb5 _ _).mono ?_;rintro e w'⟨rfl,rfl⟩) | (go_at_call 118;refine(Qdq _ _).mono ?_;rintro e w'⟨rfl,rfl⟩) | (go_at_call 117;refine(Qkb _ _ h0 HS.out).mono ?_;rintro e w'⟨rfl,rfl⟩) | (go_at_call 119;refine(Qhm _ _ h0 HT.out).mono ?_;rintro e w'⟨rfl,rfl⟩) | (go_at_call 120;refine(Qhn _ _ h0 HT.out).mono ?_;rintro e w'⟨rfl,rfl⟩) | (go_at_call 121;refine(Qj9 _ _ h0 HT.out).mono ?_;rintro e w'⟨rfl,rfl⟩))
   go_ret3;exact⟨Qb3 _ _ _ (show Qbl (suf s 0)=Qdp (suf s 0) from by unfold Qbl;rw[xN HA.out,xO HL.out]) rfl rfl rfl,rfl⟩
end Go.Proofs.YtfjpemdejoejbaaGreat
