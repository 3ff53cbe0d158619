/- Part 2 -/
import Derived.Test.YtclkilljmdkfaaaGreatTf1
import Derived.Test.YtclkilljmdkfaaaGreatRows
import Derived.WalkKit
import Derived.WalkSpells
import Derived.WalkLawsBesides
import Derived.Lib.Hide
import Derived.Deep.LoopGhost
import Derived.Deep.QuietTactic
import Derived.BigQuiet
set_option maxRecDepth 100000
set_option maxHeartbeats 4000000
namespace Go.Proofs.YtclkilljmdkfaaaGreat
open Go.RowKit
theorem Qai {a b:Bool} (h:a=b):Ending.returned (.bool a) = .returned (.bool b):=by rw [h]
theorem Qha (c:Int) (w:World):Calls Tryz.prog 151 #[.int .u8 c] w fun e w'=>e = .returned (.bool (Qeb c))∧w=w':=by
 go_enter Tryz.func151,Tryz.ntmps151
 go_wp2
 all_goals
  go_ret
  exact ⟨Qai (by simp_all [Qeb];try omega),rfl⟩
theorem Qfu (c:Int) (w:World):Calls Tryz.prog 186 #[.int .u8 c] w fun e w'=>e = .returned (.bool (Qbs c))∧w=w':=by
 go_enter Tryz.func186,Tryz.ntmps186
 go_wp2
 all_goals
  go_ret
  exact ⟨Qai (by simp_all [Qbs];try omega),rfl⟩
theorem Qdp (c:Int) (w:World):Calls Tryz.prog 154 #[.int .u8 c] w fun e w'=>e = .returned (.bool (Qb4 c))∧w=w':=by
 go_enter Tryz.func154,Tryz.ntmps154
 go_wp2
 all_goals
  go_ret
  exact ⟨Qai (by simp_all [Qb4];try omega),rfl⟩
theorem Qb1 (c:Int) (w:World):Calls Tryz.prog 152 #[.int .u8 c] w fun e w'=>e = .returned (.bool (Qaw c))∧w=w':=by
 go_enter Tryz.func152,Tryz.ntmps152
 go_wp2_with (first | (go_at_call 186;refine (Qfu _ _).mono ?_;rintro e w' ⟨rfl,rfl⟩))
 all_goals
  go_ret
  exact ⟨Qai (by simp_all [Qaw,Qh9];try omega),rfl⟩
theorem Qcz (c:Int) (w:World):Calls Tryz.prog 150 #[.int .u8 c] w fun e w'=>e = .returned (.bool (Qaq c))∧w=w':=by
 go_enter Tryz.func150,Tryz.ntmps150
 go_wp2_with (first | (go_at_call 151;refine (Qha _ _).mono ?_;rintro e w' ⟨rfl,rfl⟩))
 all_goals
  go_ret
  exact ⟨Qai (by simp_all [Qaq];try omega),rfl⟩
theorem Qdq (c:Int) (w:World):Calls Tryz.prog 175 #[.int .u8 c] w fun e w'=>e = .returned (.bool (Qeb c))∧w=w':=by
 go_enter Tryz.func175,Tryz.ntmps175
 go_wp2
 all_goals
  go_ret
  exact ⟨Qai (by simp_all [Qeb];try omega),rfl⟩
theorem Qay (c:Int) (w:World):Calls Tryz.prog 202 #[.int .u8 c] w fun e w'=>e = .returned (.bool (Qbs c))∧w=w':=by
 go_enter Tryz.func202,Tryz.ntmps202
 go_wp2
 all_goals
  go_ret
  exact ⟨Qai (by simp_all [Qbs];try omega),rfl⟩
theorem Qbd (c:Int) (w:World):Calls Tryz.prog 201 #[.int .u8 c] w fun e w'=>e = .returned (.bool (Qh9 c))∧w=w':=by
 go_enter Tryz.func201,Tryz.ntmps201
 go_wp2
 all_goals
  go_ret
  exact ⟨Qai (by simp_all [Qh9];try omega),rfl⟩
theorem Qb9 (c:Int) (w:World):Calls Tryz.prog 200 #[.int .u8 c] w fun e w'=>e = .returned (.bool (Qb4 c))∧w=w':=by
 go_enter Tryz.func200,Tryz.ntmps200
 go_wp2
 all_goals
  go_ret
  exact ⟨Qai (by simp_all [Qb4];try omega),rfl⟩
theorem Qbk (c:Int) (w:World):Calls Tryz.prog 199 #[.int .u8 c] w fun e w'=>e = .returned (.bool (Qgb c))∧w=w':=by
 go_enter Tryz.func199,Tryz.ntmps199
 go_wp2
 all_goals
  go_ret
  exact ⟨Qai (by simp_all [Qgb];try omega),rfl⟩
theorem Qa5 (c:Int) (w:World):Calls Tryz.prog 198 #[.int .u8 c] w fun e w'=>e = .returned (.bool (Qaq c))∧w=w':=by
 go_enter Tryz.func198,Tryz.ntmps198
 go_wp2_with (first | (go_at_call 175;refine (Qdq _ _).mono ?_;rintro e w' ⟨rfl,rfl⟩) | (go_at_call 199;refine (Qbk _ _).mono ?_;rintro e w' ⟨rfl,rfl⟩))
 all_goals
  go_ret
  exact ⟨Qai (by simp_all [Qia]),rfl⟩
theorem Qe1 (c:Int) (w:World):Calls Tryz.prog 212 #[.int .u8 c] w fun e w'=>e = .returned (.bool (Qg6 c))∧w=w':=by
 go_enter Tryz.func212,Tryz.ntmps212
 go_wp2_with (first | (go_at_call 202;refine (Qay _ _).mono ?_;rintro e w' ⟨rfl,rfl⟩) | (go_at_call 201;refine (Qbd _ _).mono ?_;rintro e w' ⟨rfl,rfl⟩) | (go_at_call 200;refine (Qb9 _ _).mono ?_;rintro e w' ⟨rfl,rfl⟩))
 all_goals
  go_ret
  exact ⟨Qai (by simp_all [Qg6,Qaw];try omega),rfl⟩
theorem Qs0 {a b:Int} {c d:Bool} (h:a=b) (h':c=d):Ending.returned (.tuple #[.int .i64 a,.bool c]) = .returned (.tuple #[.int .i64 b,.bool d]):=by rw [h,h']
theorem Zho (n:Nat):(n != 10)=((n:Int) != 10):=by rw [Bool.eq_iff_iff];simp;omega
theorem Qpl (s:ByteArray) (i:Nat) (w:World) (hi:i≤s.size) (hs:s.size≤maxLen) :
  Calls Tryz.prog 105 #[.string s,.int .i64 i] w fun e w'=>e = .returned (.tuple #[.int .i64 (Qan s i:Nat),.bool (Qc6 s i)])∧w=w':=by
 unfold maxLen at hs
 have hst:=hQ (SkipAt.start s i hi)
 go_enter Tryz.func105,Tryz.ntmps105
 go_wp2
 go_step3
 go_wp2
 go_step3
 go_wp2
 go_loop [1,5] (fun a b=>∃ (k:Nat) (o:Bool),k≤s.size∧a = .int .i64 k∧b = .bool o∧SkipAt s i k o) (fun a _=>s.size-(intOf a).toNat)
 case atStart=>exact ⟨i,false,hi,rfl,rfl,hst.out⟩
 case round =>
  obtain ⟨k,o,hk,rfl,rfl,hrel⟩:=hrel
  have HR:=hQ hrel
  clear hrel hst
  by_cases hlt:k<s.size
  ·cases ha:Qaq s[k].toNat
   ·go_wp2_with (first | (go_at_call 150;refine (Qcz _ _).mono ?_;rintro e w' ⟨rfl,rfl⟩) | (go_at_call 151;refine (Qha _ _).mono ?_;rintro e w' ⟨rfl,rfl⟩))
    try rw [Exit.noGoto_ret]
    go_ret2
    obtain ⟨h1,h2⟩:=HR.out.bad hlt ha
    exact ⟨Qs0 (by rw [h1]) (by rw [h2]),rfl⟩
   ·cases o
    ·by_cases hc:s[k].toNat=35
     ·have hc':((s[k].toNat:Int)==35)=true:=by simp [hc]
      have HC:=hQ hc
      clear hc
      go_wp2_with (first | (go_at_call 150;refine (Qcz _ _).mono ?_;rintro e w' ⟨rfl,rfl⟩) | (go_at_call 151;refine (Qha _ _).mono ?_;rintro e w' ⟨rfl,rfl⟩))
      go_round
      case rel=>exact ⟨k+1,true,by omega,by go_num,rfl,HR.out.opens hlt HC.out⟩
      case measure=>simp [intOf];omega
     ·have hc':((s[k].toNat:Int)==35)=false:=by simp;omega
      have HC:=hQ hc
      clear hc
      cases hw:Qeb s[k].toNat
      ·go_wp2_with (first | (go_at_call 150;refine (Qcz _ _).mono ?_;rintro e w' ⟨rfl,rfl⟩) | (go_at_call 151;refine (Qha _ _).mono ?_;rintro e w' ⟨rfl,rfl⟩))
       try rw [Exit.noGoto_ret]
       go_ret2
       obtain ⟨h1,h2⟩:=HR.out.other hlt hw HC.out
       exact ⟨Qs0 (by rw [h1]) (by rw [h2]),rfl⟩
      ·go_wp2_with (first | (go_at_call 150;refine (Qcz _ _).mono ?_;rintro e w' ⟨rfl,rfl⟩) | (go_at_call 151;refine (Qha _ _).mono ?_;rintro e w' ⟨rfl,rfl⟩))
       go_round
       case rel=>exact ⟨k+1,false,by omega,by go_num,rfl,HR.out.white hlt hw⟩
       case measure=>simp [intOf];omega
    ·go_wp2_with (first | (go_at_call 150;refine (Qcz _ _).mono ?_;rintro e w' ⟨rfl,rfl⟩) | (go_at_call 151;refine (Qha _ _).mono ?_;rintro e w' ⟨rfl,rfl⟩))
     go_round
     case rel=>exact ⟨k+1,(s[k].toNat != 10),by omega,by go_num,by rw [Zho],HR.out.inside hlt ha⟩
     case measure=>simp [intOf];omega
  ·go_wp2
   try rw [Exit.noGoto_ret]
   go_ret2
   obtain ⟨h1,h2⟩:=HR.out.done hlt
   exact ⟨Qs0 (by rw [h1]) (by rw [h2]),rfl⟩
theorem Qdx (s:ByteArray):suf s 0=s.toList:=by
 unfold suf
 rw [ByteArray.toList_eq]
 rfl
theorem Qbz {t:Tk} {x y z:Int} (a b c:Nat) (h:t=⟨a,b,c⟩) (hx:x=a) (hy:y=b) (hz:z=c):Ending.returned (.tuple #[.int .i64 x,.int .i64 y,.int .i64 z]) = .returned (.tuple #[.int .i64 t.kind,.int .i64 t.n,.int .i64 t.e]):=by
 subst h hx hy hz
 rfl
theorem Qcf {a b:Int} (h:a=b):Ending.returned (.int .i64 a) = .returned (.int .i64 b):=by rw [h]
theorem Qen (s:ByteArray) (k:Nat) (h:k<s.size):at' (suf s 0) k=s[k].toNat:=by
 rw [Qjd s 0 k (by omega)]
 simp
theorem Qlm (s:ByteArray) (w:World):Calls Tryz.prog 188 #[.string s] w fun e w'=>e = .returned (.bool (Qat (suf s 0)))∧w=w':=by
 go_enter Tryz.func188,Tryz.ntmps188
 go_wp2
 all_goals
  go_ret
  exact ⟨Qai (by rw [Qdx];simp_all [Qat,reservedWords]),rfl⟩
theorem Qdh (s:ByteArray) (w:World) (hs:s.size≤maxLen) :
  Calls Tryz.prog 187 #[.string s] w fun e w'=>e = .returned (.int .i64 (Qac (suf s 0):Nat))∧w=w':=by
 unfold maxLen at hs
 have hst:=hQ (RunAt.start Qg6 s 0 (xZ _))
 go_enter Tryz.func187,Tryz.ntmps187
 go_wp2
 go_loop [3] (fun a=>∃ (k:Nat),k≤s.size∧a = .int .i64 k∧RunAt Qg6 s 0 k) (fun a=>s.size-(intOf a).toNat)
 case atStart=>exact ⟨0,xZ _,rfl,hst.out⟩
 case round =>
  obtain ⟨k,hk,rfl,hrel⟩:=hrel
  have HR:=hQ hrel
  clear hrel hst
  by_cases hlt:k<s.size
  ·have HW:=hQ (show Qg6 s[k].toNat=(Qaw s[k].toNat || Qb4 s[k].toNat || (s[k].toNat:Int)==95) from rfl)
   cases hl:Qaw s[k].toNat
   ·cases hd:Qb4 s[k].toNat
    ·cases h95:((s[k].toNat:Int)==95)
     ·go_wp2_with (first | (go_at_call 152;refine (Qb1 _ _).mono ?_;rintro e w' ⟨rfl,rfl⟩) | (go_at_call 154;refine (Qdp _ _).mono ?_;rintro e w' ⟨rfl,rfl⟩))
      go_ret
      have h1:=HR.out.stop hlt (by rw [HW.out,hl,hd,h95];rfl)
      exact ⟨Qcf (by unfold Qac;omega),rfl⟩
     ·go_wp2_with (first | (go_at_call 152;refine (Qb1 _ _).mono ?_;rintro e w' ⟨rfl,rfl⟩) | (go_at_call 154;refine (Qdp _ _).mono ?_;rintro e w' ⟨rfl,rfl⟩))
      go_round
      case rel=>exact ⟨k+1,by omega,by go_num,HR.out.next hlt (by rw [HW.out,hl,hd,h95];rfl)⟩
      case measure=>simp [intOf];omega
    ·go_wp2_with (first | (go_at_call 152;refine (Qb1 _ _).mono ?_;rintro e w' ⟨rfl,rfl⟩) | (go_at_call 154;refine (Qdp _ _).mono ?_;rintro e w' ⟨rfl,rfl⟩))
     go_round
     case rel=>exact ⟨k+1,by omega,by go_num,HR.out.next hlt (by rw [HW.out,hl,hd];rfl)⟩
     case measure=>simp [intOf];omega
   ·go_wp2_with (first | (go_at_call 152;refine (Qb1 _ _).mono ?_;rintro e w' ⟨rfl,rfl⟩) | (go_at_call 154;refine (Qdp _ _).mono ?_;rintro e w' ⟨rfl,rfl⟩))
    go_round
    case rel=>exact ⟨k+1,by omega,by go_num,HR.out.next hlt (by rw [HW.out,hl];rfl)⟩
    case measure=>simp [intOf];omega
  ·go_wp2
   go_ret
   have h1:=HR.out.done hlt
   exact ⟨Qcf (by unfold Qac;omega),rfl⟩
theorem Qhb (s:ByteArray) (w:World) (h0:0<s.size) (hs:s.size≤maxLen) :
  Calls Tryz.prog 155 #[.string s] w fun e w'=>e = .returned (.tuple #[.int .i64 (Qjc (suf s 0)).kind,.int .i64 (Qjc (suf s 0)).n,.int .i64 (Qjc (suf s 0)).e])∧w=w':=by
 unfold maxLen at hs
 have hst:=hQ (RunAt.start Qb4 s 0 (xZ _))
 have H0:=hQ (Qen s 0 h0)
 go_enter Tryz.func155,Tryz.ntmps155
 go_wp2
 go_loop [3] (fun a=>∃ (k:Nat),k≤s.size∧a = .int .i64 k∧RunAt Qb4 s 0 k) (fun a=>s.size-(intOf a).toNat)
 case atStart=>exact ⟨0,xZ _,rfl,hst.out⟩
 case round =>
  obtain ⟨k,hk,rfl,hrel⟩:=hrel
  have HR:=hQ hrel
  clear hrel hst
  by_cases hgo:∃ h:k<s.size,Qb4 s[k].toNat=true
  ·obtain ⟨hlt,hd⟩:=hgo
   go_wp2_with (first | (go_at_call 152;refine (Qb1 _ _).mono ?_;rintro e w' ⟨rfl,rfl⟩) | (go_at_call 154;refine (Qdp _ _).mono ?_;rintro e w' ⟨rfl,rfl⟩))
   go_round
   case rel=>exact ⟨k+1,by omega,by go_num,HR.out.next hlt hd⟩
   case measure=>simp [intOf];omega
  ·have HN:Hid (Qdu (suf s 0)=k):=by
    unfold Qdu
    by_cases hlt:k<s.size
    ·have:=HR.out.stop hlt (by simpa using fun h=>hgo ⟨hlt,h⟩)
     exact hQ (by omega)
    ·have:=HR.out.done hlt
     exact hQ (by omega)
   by_cases h1:1<k
   ·by_cases h48:s[0].toNat=48
    ·have h48':((s[0].toNat:Int)==48)=true:=by simp [h48]
     have H48:=hQ h48
     clear h48
     by_cases hlt:k<s.size
     all_goals
      first | (have hd:Qb4 s[k].toNat=false:=by simpa using fun h=>hgo ⟨hlt,h⟩) | skip
      clear hgo
      go_wp2_with (first | (go_at_call 152;refine (Qb1 _ _).mono ?_;rintro e w' ⟨rfl,rfl⟩) | (go_at_call 154;refine (Qdp _ _).mono ?_;rintro e w' ⟨rfl,rfl⟩))
      go_ret3
      exact ⟨Qbz 0 0 2 (by unfold Qjc;rw [xO ⟨by rw [HN.out];exact h1,by rw [H0.out,H48.out]⟩]) rfl rfl rfl,rfl⟩
    ·have h48':((s[0].toNat:Int)==48)=false:=by simp;omega
     have H48:=hQ h48
     clear h48
     have HE:=hQ (show ¬ (1<Qdu (suf s 0)∧at' (suf s 0) 0=48) from fun h=>H48.out (by rw [←H0.out];exact h.2))
     by_cases h15:15<k
     all_goals
      by_cases hlt:k<s.size
      all_goals
       first | (have hd:Qb4 s[k].toNat=false:=by simpa using fun h=>hgo ⟨hlt,h⟩) | skip
       clear hgo
       go_wp2_with (first | (go_at_call 152;refine (Qb1 _ _).mono ?_;rintro e w' ⟨rfl,rfl⟩) | (go_at_call 154;refine (Qdp _ _).mono ?_;rintro e w' ⟨rfl,rfl⟩))
       go_ret3
       first
        | exact ⟨Qbz 0 0 3 (by unfold Qjc;rw [xN HE.out,HN.out,xO h15]) rfl rfl rfl,rfl⟩
        | exact ⟨Qbz 5 k 0 (by unfold Qjc;rw [xN HE.out,HN.out,xN h15]) rfl rfl rfl,rfl⟩
   ·have HE:=hQ (show ¬ (1<Qdu (suf s 0)∧at' (suf s 0) 0=48) from fun h=>h1 (by rw [←HN.out];exact h.1))
    by_cases hlt:k<s.size
    all_goals
     first | (have hd:Qb4 s[k].toNat=false:=by simpa using fun h=>hgo ⟨hlt,h⟩) | skip
     clear hgo
     go_wp2_with (first | (go_at_call 152;refine (Qb1 _ _).mono ?_;rintro e w' ⟨rfl,rfl⟩) | (go_at_call 154;refine (Qdp _ _).mono ?_;rintro e w' ⟨rfl,rfl⟩))
     go_ret3
     exact ⟨Qbz 5 k 0 (by unfold Qjc;rw [xN HE.out,HN.out,xN (by omega)]) rfl rfl rfl,rfl⟩
def QuotAt (s:ByteArray) (a k:Nat):Prop:=a+1≤k∧k≤s.size∧Qc4 1 (suf s (a+1))=Qc4 (k-a) (suf s k)
theorem QuotAt.start (s:ByteArray) (a:Nat) (h:a<s.size):QuotAt s a (a+1):=⟨xA _,h,by rw [show a+1-a=1 from by omega]⟩
section
variable {s:ByteArray} {a k:Nat}
theorem QuotAt.done (h:QuotAt s a k) (hk:¬ k<s.size):Qc4 1 (suf s (a+1))=⟨0,0,2⟩:=by
 rw [h.2.2,Qky s k (by omega),Qc4]
theorem QuotAt.close (h:QuotAt s a k) (hk:k<s.size) (hc:s[k].toNat=34):Qc4 1 (suf s (a+1))=⟨6,k-a+1,0⟩:=by
 rw [h.2.2,Qdd s k hk,Qc4,xO hc]
theorem QuotAt.stop (h:QuotAt s a k) (hk:k<s.size) (h34:s[k].toNat≠34) (hc:s[k].toNat=92∨s[k].toNat=9∨s[k].toNat=10∨s[k].toNat=13):Qc4 1 (suf s (a+1))=⟨0,0,2⟩:=by
 rw [h.2.2,Qdd s k hk,Qc4,xN h34,xO hc]
theorem QuotAt.bad (h:QuotAt s a k) (hk:k<s.size) (h34:s[k].toNat≠34) (hc:¬ (s[k].toNat=92∨s[k].toNat=9∨s[k].toNat=10∨s[k].toNat=13)) (ha:Qaq s[k].toNat=false):Qc4 1 (suf s (a+1))=⟨0,k-a,1⟩:=by
 rw [h.2.2,Qdd s k hk,Qc4,xN h34,xN hc,xN (by simp [ha])]
theorem QuotAt.next (h:QuotAt s a k) (hk:k<s.size) (h34:s[k].toNat≠34) (hc:¬ (s[k].toNat=92∨s[k].toNat=9∨s[k].toNat=10∨s[k].toNat=13)) (ha:Qaq s[k].toNat=true):QuotAt s a (k+1):=by
 refine ⟨by have:=h.1;omega,by omega,?_⟩
 rw [h.2.2,Qdd s k hk,Qc4,xN h34,xN hc,xO ha,show k-a+1=k+1-a from by have:=h.1;omega]
end
theorem Qda {n m:Nat} (h:n=m):((n:Int)==(m:Int))=true:=by simp [h]
theorem Qdw {n m:Nat} (h:n≠m):((n:Int)==(m:Int))=false:=by simp;omega
theorem Qhc (s:ByteArray) (w:World) (h0:0<s.size) (hs:s.size≤maxLen) :
  Calls Tryz.prog 156 #[.string s] w fun e w'=>e = .returned (.tuple #[.int .i64 (Qc4 1 (suf s 1)).kind,.int .i64 (Qc4 1 (suf s 1)).n,.int .i64 (Qc4 1 (suf s 1)).e])∧w=w':=by
 unfold maxLen at hs
 have hst:=hQ (QuotAt.start s 0 h0)
 go_enter Tryz.func156,Tryz.ntmps156
 go_wp2
 go_loop [5] (fun a=>∃ (k:Nat),1≤k∧k≤s.size∧a = .int .i64 k∧QuotAt s 0 k) (fun a=>s.size-(intOf a).toNat)
 case atStart=>exact ⟨1,xA _,h0,rfl,hst.out⟩
 case round =>
  obtain ⟨k,h1,hk,rfl,hrel⟩:=hrel
  have HR:=hQ hrel
  clear hrel hst
  by_cases hlt:k<s.size
  ·by_cases h34:s[k].toNat=34
   ·have g34:((s[k].toNat:Int)==34)=true:=Qda h34
    have H34:=hQ h34
    clear h34
    go_wp2
    go_ret3
    exact ⟨Qbz 6 (k+1) 0 (HR.out.close hlt H34.out) rfl (by omega) rfl,rfl⟩
   ·have g34:((s[k].toNat:Int)==34)=false:=Qdw h34
    have H34:=hQ h34
    clear h34
    by_cases hstop:s[k].toNat=92∨s[k].toNat=9∨s[k].toNat=10∨s[k].toNat=13
    ·have HS:=hQ hstop
     rcases hstop with h | h | h | h
     ·have g1:((s[k].toNat:Int)==92)=true:=Qda h
      clear h
      go_wp2
      go_ret3
      exact ⟨Qbz 0 0 2 (HR.out.stop hlt H34.out HS.out) rfl rfl rfl,rfl⟩
     ·have g1:((s[k].toNat:Int)==92)=false:=Qdw (m:=92) (by omega)
      have g2:((s[k].toNat:Int)==9)=true:=Qda h
      clear h
      go_wp2
      go_ret3
      exact ⟨Qbz 0 0 2 (HR.out.stop hlt H34.out HS.out) rfl rfl rfl,rfl⟩
     ·have g1:((s[k].toNat:Int)==92)=false:=Qdw (m:=92) (by omega)
      have g2:((s[k].toNat:Int)==9)=false:=Qdw (m:=9) (by omega)
      have g3:((s[k].toNat:Int)==10)=true:=Qda h
      clear h
      go_wp2
      go_ret3
      exact ⟨Qbz 0 0 2 (HR.out.stop hlt H34.out HS.out) rfl rfl rfl,rfl⟩
     ·have g1:((s[k].toNat:Int)==92)=false:=Qdw (m:=92) (by omega)
      have g2:((s[k].toNat:Int)==9)=false:=Qdw (m:=9) (by omega)
      have g3:((s[k].toNat:Int)==10)=false:=Qdw (m:=10) (by omega)
      have g4:((s[k].toNat:Int)==13)=true:=Qda h
      clear h
      go_wp2
      go_ret3
      exact ⟨Qbz 0 0 2 (HR.out.stop hlt H34.out HS.out) rfl rfl rfl,rfl⟩
    ·have g1:((s[k].toNat:Int)==92)=false:=Qdw (fun h=>hstop (.inl h))
     have g2:((s[k].toNat:Int)==9)=false:=Qdw (fun h=>hstop (.inr (.inl h)))
     have g3:((s[k].toNat:Int)==10)=false:=Qdw (fun h=>hstop (.inr (.inr (.inl h))))
     have g4:((s[k].toNat:Int)==13)=false:=Qdw (fun h=>hstop (.inr (.inr (.inr h))))
     have HS:=hQ hstop
     clear hstop
     cases ha:Qaq s[k].toNat
     ·go_wp2_with (go_at_call 150;refine (Qcz _ _).mono ?_;rintro e w' ⟨rfl,rfl⟩)
      go_ret3
      exact ⟨Qbz 0 k 1 (HR.out.bad hlt H34.out HS.out ha) rfl (by omega) rfl,rfl⟩
     ·go_wp2_with (go_at_call 150;refine (Qcz _ _).mono ?_;rintro e w' ⟨rfl,rfl⟩)
      go_round
      case rel=>exact ⟨k+1,by omega,by omega,by go_num,HR.out.next hlt H34.out HS.out ha⟩
      case measure=>simp [intOf];omega
  ·go_wp2
   go_ret3
   exact ⟨Qbz 0 0 2 (HR.out.done hlt) rfl rfl rfl,rfl⟩
theorem Qs1 (s:ByteArray) (h0:0<s.size) (h:s[0].toNat=61) (h1:1<s.size) (h2:s[1].toNat=61):Qea (suf s 0)=⟨8,2,0⟩:=by
 have:Qbv (suf s 0)=2:=by unfold Qbv;rw [Qen s 0 h0,xO h,Qen s 1 h1,xO h2]
 unfold Qea
 rw [this,xN (by decide)]
theorem Qn5 (s:ByteArray) (h0:0<s.size) (h:s[0].toNat=61) (h1:∀ h:1<s.size,s[1].toNat≠61):Qea (suf s 0)=⟨8,1,0⟩:=by
 have:Qbv (suf s 0)=1:=by
  unfold Qbv
  rw [Qen s 0 h0,xO h]
  by_cases h2:1<s.size
  ·rw [Qen s 1 h2,xN (h1 h2)]
  ·unfold at'
   rw [List.getD_eq_getElem?_getD,List.getElem?_eq_none (by rw [Qb0];omega)]
   decide
 unfold Qea
 rw [this,xN (by decide)]
theorem Qs2 (s:ByteArray) (h0:0<s.size) (h:s[0].toNat≠61) (h1:Qe0 s[0].toNat=true):Qea (suf s 0)=⟨8,1,0⟩:=by
 have:Qbv (suf s 0)=1:=by unfold Qbv;rw [Qen s 0 h0,xN h,xO h1]
 unfold Qea
 rw [this,xN (by decide)]
theorem Qqt (s:ByteArray) (h0:0<s.size) (h:s[0].toNat≠61) (h1:Qe0 s[0].toNat=false):Qea (suf s 0)=⟨0,0,2⟩:=by
 have:Qbv (suf s 0)=0:=by unfold Qbv;rw [Qen s 0 h0,xN h,xN (by simp [h1])]
 unfold Qea
 rw [this,xO rfl]
theorem Qj2 (s:ByteArray) (w:World) (h0:0<s.size) (_hs:s.size≤maxLen) :
  Calls Tryz.prog 157 #[.string s] w fun e w'=>e = .returned (.tuple #[.int .i64 (Qea (suf s 0)).kind,.int .i64 (Qea (suf s 0)).n,.int .i64 (Qea (suf s 0)).e])∧w=w':=by
 by_cases h61:s[0].toNat=61
 ·have g61:((s[0].toNat:Int)==61)=true:=Qda h61
  have H61:=hQ h61
  clear h61
  by_cases h1:1<s.size
  ·by_cases h2:s[1].toNat=61
   ·have g2:((s[1].toNat:Int)==61)=true:=Qda h2
    have H2:=hQ h2
    clear h2
    go_enter Tryz.func157,Tryz.ntmps157
    go_wp2
    go_ret3
    exact ⟨Qbz 8 2 0 (Qs1 s h0 H61.out h1 H2.out) rfl rfl rfl,rfl⟩
   ·have g2:((s[1].toNat:Int)==61)=false:=Qdw h2
    have H2:=hQ h2
    clear h2
    go_enter Tryz.func157,Tryz.ntmps157
    go_wp2
    go_ret3
    exact ⟨Qbz 8 1 0 (Qn5 s h0 H61.out (fun _=>H2.out)) rfl rfl rfl,rfl⟩
  ·go_enter Tryz.func157,Tryz.ntmps157
   go_wp2
   go_ret3
   exact ⟨Qbz 8 1 0 (Qn5 s h0 H61.out (fun h=>absurd h h1)) rfl rfl rfl,rfl⟩
 ·have g61:((s[0].toNat:Int)==61)=false:=Qdw h61
  have H61:=hQ h61
  clear h61
  cases ho:Qe0 s[0].toNat
  ·have H1:=hQ ho
   simp only [Qe0,Bool.or_eq_false_iff,and_assoc] at ho
   obtain ⟨a1,a2,a3,a4,a5,a6,a7,a8,a9,a10,a11⟩:=ho
   go_enter Tryz.func157,Tryz.ntmps157
   go_wp2
   go_ret3
   exact ⟨Qbz 0 0 2 (Qqt s h0 H61.out H1.out) rfl rfl rfl,rfl⟩
  ·have H1:=hQ ho
   clear ho
   go_enter Tryz.func157,Tryz.ntmps157
   go_wp2
   all_goals
    first
     | (go_ret3;exact ⟨Qbz 8 1 0 (Qs2 s h0 H61.out H1.out) rfl rfl rfl,rfl⟩)
     | (exfalso;have:=H1.out;simp_all [Qe0])
theorem Qmi (s:ByteArray) (a:Nat) (w:World) (hs:s.size≤maxLen) :
  Calls Tryz.prog 187 #[.string (s.extract a s.size)] w fun e w'=>e = .returned (.int .i64 (Qac (suf s a):Nat))∧w=w':=by
 rw [←Qg8 s a]
 exact Qdh _ w (by rw [ByteArray.size_extract];omega)
theorem Qpm (s:ByteArray) (a m:Nat) (w:World) :
  Calls Tryz.prog 188 #[.string ((s.extract a s.size).extract 0 m)] w fun e w'=>e = .returned (.bool (Qat ((suf s a).take m)))∧w=w':=by
 have h:=Qlm ((s.extract a s.size).extract 0 m) w
 rw [Qec,Qg8] at h
 exact h
theorem Qca (s:ByteArray) (a:Nat):Qac (suf s a)≤s.size-a:=by
 have:=Qme Qg6 (suf s a)
 rw [Qb0] at this
 exact this
theorem Qs3 (s:ByteArray) (a k:Nat):at' (suf s a) k=at' (suf s 0) (a+k):=by
 unfold at' suf
 rw [List.getD_eq_getElem?_getD,List.getD_eq_getElem?_getD,List.getElem?_drop,List.getElem?_drop,Nat.zero_add]
theorem Quq (s:ByteArray) (a:Nat) (h:0<(s.extract a s.size).size):(s.extract a s.size)[0].toNat=at' (suf s 0) a:=by
 rw [←Qen _ 0 h,Qg8,Qs3]
 rfl
theorem Qj3 (s:ByteArray) (a:Nat) (h:a<s.size):0<(s.extract a s.size).size:=by
 rw [ByteArray.size_extract]
 omega
section
variable (s:ByteArray) (n:Nat)
theorem Qzb (h:24<n∨24<Qac (suf s (n+1))):Qc9 (suf s 0) n=⟨0,0,3⟩:=by
 unfold Qc9
 rw [Qev,Nat.zero_add,xO h]
theorem Zeh (h:¬ (24<n∨24<Qac (suf s (n+1)))) (hr:Qat ((suf s (n+1)).take (Qac (suf s (n+1))))=true):Qc9 (suf s 0) n=⟨0,0,2⟩:=by
 unfold Qc9
 rw [Qev,Nat.zero_add,xN h,xO hr]
theorem Zhp (h:¬ (24<n∨24<Qac (suf s (n+1)))) (hr:Qat ((suf s (n+1)).take (Qac (suf s (n+1))))=false) (h0:n+1<s.size)
  (hu:Qbs ((s.extract (n+1) s.size)[0]'(Qj3 s _ h0)).toNat=true):Qc9 (suf s 0) n=⟨4,n+1+Qac (suf s (n+1)),0⟩:=by
 rw [Quq s (n+1) (Qj3 s _ h0)] at hu
 unfold Qc9
 rw [Qev,Nat.zero_add,xN h,xN (by simp [hr]),xO hu]
theorem Zei (h:¬ (24<n∨24<Qac (suf s (n+1)))) (hr:Qat ((suf s (n+1)).take (Qac (suf s (n+1))))=false) (h0:n+1<s.size)
  (hu:Qbs ((s.extract (n+1) s.size)[0]'(Qj3 s _ h0)).toNat=false):Qc9 (suf s 0) n=⟨3,n+1+Qac (suf s (n+1)),0⟩:=by
 rw [Quq s (n+1) (Qj3 s _ h0)] at hu
 unfold Qc9
 rw [Qev,Nat.zero_add,xN h,xN (by simp [hr]),xN (by simp [hu])]
end
theorem Qej (s:ByteArray) (n:Nat) (w:World) (h0:n+1<s.size) (hs:s.size≤maxLen) :
  Calls Tryz.prog 189 #[.string s,.int .i64 n] w fun e w'=>e = .returned (.tuple #[.int .i64 (Qc9 (suf s 0) n).kind,.int .i64 (Qc9 (suf s 0) n).n,.int .i64 (Qc9 (suf s 0) n).e])∧w=w':=by
 have HS:=hQ hs
 have hm:=Qca s (n+1)
 unfold maxLen at hs
 go_enter Tryz.func189,Tryz.ntmps189
 go_wp2_with (first | (go_at_call 187;refine (Qmi _ _ _ HS.out).mono ?_;rintro e w' ⟨rfl,rfl⟩) | (go_at_call 188;refine (Qpm _ _ _ _).mono ?_;rintro e w' ⟨rfl,rfl⟩) | (go_at_call 186;refine (Qfu _ _).mono ?_;rintro e w' ⟨rfl,rfl⟩))
 all_goals
  go_ret3
  first
   | exact ⟨Qbz 0 0 3 (Qzb s n (by omega)) rfl rfl rfl,rfl⟩
   | exact ⟨Qbz 0 0 2 (Zeh s n (by omega) (by assumption)) rfl rfl rfl,rfl⟩
   | exact ⟨Qbz 4 (n+1+Qac (suf s (n+1))) 0 (Zhp s n (by omega) (by assumption) h0 (by assumption)) rfl (by omega) rfl,rfl⟩
   | exact ⟨Qbz 3 (n+1+Qac (suf s (n+1))) 0 (Zei s n (by omega) (by assumption) h0 (by assumption)) rfl (by omega) rfl,rfl⟩
theorem Qek (s:ByteArray) (m:Nat) (w:World) :
  Calls Tryz.prog 188 #[.string (s.extract 0 m)] w fun e w'=>e = .returned (.bool (Qat ((suf s 0).take m)))∧w=w':=by
 have h:=Qlm (s.extract 0 m) w
 rw [Qec,Nat.sub_zero] at h
 exact h
theorem Qdi {l:List UInt8} (h:Qc8 l=false):Qdo l=Qdv l:=by
 unfold Qdo
 rw [xN (by simp [h])]
section
variable {l:List UInt8}
theorem Qd2 (h:24<Qac l):Qdv l=⟨0,0,3⟩:=by
 unfold Qdv
 rw [xO h]
theorem Qep (h:¬ 24<Qac l) (hr:Qat (l.take (Qac l))=true):Qdv l=⟨7,Qac l,0⟩:=by
 unfold Qdv
 rw [xN h,xO hr]
theorem Qfr (h:¬ 24<Qac l) (hr:Qat (l.take (Qac l))=false) (hu:Qbs (at' l 0)=true):Qdv l=⟨2,Qac l,0⟩:=by
 unfold Qdv
 rw [xN h,xN (by simp [hr]),xO hu]
theorem Qeq (h:¬ 24<Qac l) (hr:Qat (l.take (Qac l))=false) (hu:Qbs (at' l 0)=false):Qdv l=⟨1,Qac l,0⟩:=by
 unfold Qdv
 rw [xN h,xN (by simp [hr]),xN (by simp [hu])]
end
theorem Qj4 (s:ByteArray) (w:World) (h0:0<s.size) (hs:s.size<maxLen) :
  Calls Tryz.prog 153 #[.string s] w fun e w'=>e = .returned (.tuple #[.int .i64 (Qdo (suf s 0)).kind,.int .i64 (Qdo (suf s 0)).n,.int .i64 (Qdo (suf s 0)).e])∧w=w':=by
 have HS:=hQ (Nat.le_of_lt hs)
 have hm:=Qca s 0
 have H0:=hQ (Qen s 0 h0)
 have HL:=hQ (Qb0 s 0)
 have HD:=hQ (show Qc8 (suf s 0)=(Qbs (at' (suf s 0) 0) && !Qat ((suf s 0).take (Qac (suf s 0))) && decide (Qac (suf s 0)+1<(suf s 0).length) && at' (suf s 0) (Qac (suf s 0))==46 && Qaw (at' (suf s 0) (Qac (suf s 0)+1))) from rfl)
 unfold maxLen at hs
 cases hu:Qbs s[0].toNat
 ·cases hr:Qat ((suf s 0).take (Qac (suf s 0)))
  all_goals
   have HP:=hQ (Qdi (show Qc8 (suf s 0)=false from by rw [HD.out,H0.out,hu];rfl))
   by_cases h24:24<Qac (suf s 0)
   all_goals
    go_enter Tryz.func153,Tryz.ntmps153
    go_wp2_with (first | (go_at_call 187;refine (Qdh _ _ HS.out).mono ?_;rintro e w' ⟨rfl,rfl⟩) | (go_at_call 188;refine (Qek _ _ _).mono ?_;rintro e w' ⟨rfl,rfl⟩) | (go_at_call 186;refine (Qfu _ _).mono ?_;rintro e w' ⟨rfl,rfl⟩) | (go_at_call 152;refine (Qb1 _ _).mono ?_;rintro e w' ⟨rfl,rfl⟩) | (go_at_call 189;refine (Qej _ _ _ hn HS.out).mono ?_;rintro e w' ⟨rfl,rfl⟩))
    go_ret3
    first
     | exact ⟨Qbz 0 0 3 (HP.out.trans (Qd2 h24)) rfl rfl rfl,rfl⟩
     | exact ⟨Qbz 7 (Qac (suf s 0)) 0 (HP.out.trans (Qep h24 hr)) rfl rfl rfl,rfl⟩
     | exact ⟨Qbz 2 (Qac (suf s 0)) 0 (HP.out.trans (Qfr h24 hr (by rw [H0.out];exact hu))) rfl rfl rfl,rfl⟩
     | exact ⟨Qbz 1 (Qac (suf s 0)) 0 (HP.out.trans (Qeq h24 hr (by rw [H0.out];exact hu))) rfl rfl rfl,rfl⟩

 ·cases hr:Qat ((suf s 0).take (Qac (suf s 0)))
  ·by_cases hn:Qac (suf s 0)+1<s.size
   ·have hn':((Qac (suf s 0):Nat):Int)+1<(s.size:Int):=by omega
    by_cases h46:s[Qac (suf s 0)].toNat=46
    ·have g46:((s[Qac (suf s 0)].toNat:Int)==46)=true:=Qda h46
     have H46:=hQ h46
     clear h46
     cases hl:Qaw s[Qac (suf s 0)+1].toNat
     ·have HP:=hQ (Qdi (show Qc8 (suf s 0)=false from by rw [HD.out,Qen s (Qac (suf s 0)+1) hn,hl];simp))
      by_cases h24:24<Qac (suf s 0)
      all_goals
       go_enter Tryz.func153,Tryz.ntmps153
       go_wp2_with (first | (go_at_call 187;refine (Qdh _ _ HS.out).mono ?_;rintro e w' ⟨rfl,rfl⟩) | (go_at_call 188;refine (Qek _ _ _).mono ?_;rintro e w' ⟨rfl,rfl⟩) | (go_at_call 186;refine (Qfu _ _).mono ?_;rintro e w' ⟨rfl,rfl⟩) | (go_at_call 152;refine (Qb1 _ _).mono ?_;rintro e w' ⟨rfl,rfl⟩) | (go_at_call 189;refine (Qej _ _ _ hn HS.out).mono ?_;rintro e w' ⟨rfl,rfl⟩))
       go_ret3
       first
        | exact ⟨Qbz 0 0 3 (HP.out.trans (Qd2 h24)) rfl rfl rfl,rfl⟩
        | exact ⟨Qbz 7 (Qac (suf s 0)) 0 (HP.out.trans (Qep h24 hr)) rfl rfl rfl,rfl⟩
        | exact ⟨Qbz 2 (Qac (suf s 0)) 0 (HP.out.trans (Qfr h24 hr (by rw [H0.out];exact hu))) rfl rfl rfl,rfl⟩
        | exact ⟨Qbz 1 (Qac (suf s 0)) 0 (HP.out.trans (Qeq h24 hr (by rw [H0.out];exact hu))) rfl rfl rfl,rfl⟩

     ·have HT:=hQ (show Qdo (suf s 0)=Qc9 (suf s 0) (Qac (suf s 0)) from by
       unfold Qdo
       rw [xO (by rw [HD.out,HL.out,H0.out,hu,hr,Qen s _ (by omega),H46.out,Qen s _ hn,hl];simpa using hn)])
      go_enter Tryz.func153,Tryz.ntmps153
      go_wp2_with (first | (go_at_call 187;refine (Qdh _ _ HS.out).mono ?_;rintro e w' ⟨rfl,rfl⟩) | (go_at_call 188;refine (Qek _ _ _).mono ?_;rintro e w' ⟨rfl,rfl⟩) | (go_at_call 186;refine (Qfu _ _).mono ?_;rintro e w' ⟨rfl,rfl⟩) | (go_at_call 152;refine (Qb1 _ _).mono ?_;rintro e w' ⟨rfl,rfl⟩) | (go_at_call 189;refine (Qej _ _ _ hn HS.out).mono ?_;rintro e w' ⟨rfl,rfl⟩))
      go_ret3
      exact ⟨Qbz _ _ _ HT.out rfl rfl rfl,rfl⟩
    ·have g46:((s[Qac (suf s 0)].toNat:Int)==46)=false:=Qdw h46
     have H47:=hQ h46
     clear h46
     have HP:=hQ (Qdi (show Qc8 (suf s 0)=false from by rw [HD.out,Qen s (Qac (suf s 0)) (by omega),beq_eq_false_iff_ne.2 H47.out];simp))
     by_cases h24:24<Qac (suf s 0)
     all_goals
      go_enter Tryz.func153,Tryz.ntmps153
      go_wp2_with (first | (go_at_call 187;refine (Qdh _ _ HS.out).mono ?_;rintro e w' ⟨rfl,rfl⟩) | (go_at_call 188;refine (Qek _ _ _).mono ?_;rintro e w' ⟨rfl,rfl⟩) | (go_at_call 186;refine (Qfu _ _).mono ?_;rintro e w' ⟨rfl,rfl⟩) | (go_at_call 152;refine (Qb1 _ _).mono ?_;rintro e w' ⟨rfl,rfl⟩) | (go_at_call 189;refine (Qej _ _ _ hn HS.out).mono ?_;rintro e w' ⟨rfl,rfl⟩))
      go_ret3
      first
       | exact ⟨Qbz 0 0 3 (HP.out.trans (Qd2 h24)) rfl rfl rfl,rfl⟩
       | exact ⟨Qbz 7 (Qac (suf s 0)) 0 (HP.out.trans (Qep h24 hr)) rfl rfl rfl,rfl⟩
       | exact ⟨Qbz 2 (Qac (suf s 0)) 0 (HP.out.trans (Qfr h24 hr (by rw [H0.out];exact hu))) rfl rfl rfl,rfl⟩
       | exact ⟨Qbz 1 (Qac (suf s 0)) 0 (HP.out.trans (Qeq h24 hr (by rw [H0.out];exact hu))) rfl rfl rfl,rfl⟩

   ·have hn':¬ ((Qac (suf s 0):Nat):Int)+1<(s.size:Int):=by omega
    have HP:=hQ (Qdi (show Qc8 (suf s 0)=false from by rw [HD.out,HL.out,Nat.sub_zero,xR hn];simp))
    by_cases h24:24<Qac (suf s 0)
    all_goals
     go_enter Tryz.func153,Tryz.ntmps153
     go_wp2_with (first | (go_at_call 187;refine (Qdh _ _ HS.out).mono ?_;rintro e w' ⟨rfl,rfl⟩) | (go_at_call 188;refine (Qek _ _ _).mono ?_;rintro e w' ⟨rfl,rfl⟩) | (go_at_call 186;refine (Qfu _ _).mono ?_;rintro e w' ⟨rfl,rfl⟩) | (go_at_call 152;refine (Qb1 _ _).mono ?_;rintro e w' ⟨rfl,rfl⟩) | (go_at_call 189;refine (Qej _ _ _ hn HS.out).mono ?_;rintro e w' ⟨rfl,rfl⟩))
     go_ret3
     first
      | exact ⟨Qbz 0 0 3 (HP.out.trans (Qd2 h24)) rfl rfl rfl,rfl⟩
      | exact ⟨Qbz 7 (Qac (suf s 0)) 0 (HP.out.trans (Qep h24 hr)) rfl rfl rfl,rfl⟩
      | exact ⟨Qbz 2 (Qac (suf s 0)) 0 (HP.out.trans (Qfr h24 hr (by rw [H0.out];exact hu))) rfl rfl rfl,rfl⟩
      | exact ⟨Qbz 1 (Qac (suf s 0)) 0 (HP.out.trans (Qeq h24 hr (by rw [H0.out];exact hu))) rfl rfl rfl,rfl⟩

  ·have HP:=hQ (Qdi (show Qc8 (suf s 0)=false from by rw [HD.out,hr];simp))
   by_cases h24:24<Qac (suf s 0)
   all_goals
    go_enter Tryz.func153,Tryz.ntmps153
    go_wp2_with (first | (go_at_call 187;refine (Qdh _ _ HS.out).mono ?_;rintro e w' ⟨rfl,rfl⟩) | (go_at_call 188;refine (Qek _ _ _).mono ?_;rintro e w' ⟨rfl,rfl⟩) | (go_at_call 186;refine (Qfu _ _).mono ?_;rintro e w' ⟨rfl,rfl⟩) | (go_at_call 152;refine (Qb1 _ _).mono ?_;rintro e w' ⟨rfl,rfl⟩) | (go_at_call 189;refine (Qej _ _ _ hn HS.out).mono ?_;rintro e w' ⟨rfl,rfl⟩))
    go_ret3
    first
     | exact ⟨Qbz 0 0 3 (HP.out.trans (Qd2 h24)) rfl rfl rfl,rfl⟩
     | exact ⟨Qbz 7 (Qac (suf s 0)) 0 (HP.out.trans (Qep h24 hr)) rfl rfl rfl,rfl⟩
     | exact ⟨Qbz 2 (Qac (suf s 0)) 0 (HP.out.trans (Qfr h24 hr (by rw [H0.out];exact hu))) rfl rfl rfl,rfl⟩
     | exact ⟨Qbz 1 (Qac (suf s 0)) 0 (HP.out.trans (Qeq h24 hr (by rw [H0.out];exact hu))) rfl rfl rfl,rfl⟩

theorem Zhq (s:ByteArray):(suf s 0).drop 1=suf s 1:=by rw [Qev]
theorem Qj5 (s:ByteArray) (w:World) (h0:0<s.size) (hs:s.size<maxLen) :
  Calls Tryz.prog 106 #[.string s] w fun e w'=>e = .returned (.tuple #[.int .i64 (Qbe (suf s 0)).kind,.int .i64 (Qbe (suf s 0)).n,.int .i64 (Qbe (suf s 0)).e])∧w=w':=by
 have HS:=hQ hs
 have HT:=hQ (Nat.le_of_lt hs)
 have H0:=hQ (Qen s 0 h0)
 unfold maxLen at hs
 cases ha:Qaq s[0].toNat
 ·go_enter Tryz.func106,Tryz.ntmps106
  go_wp2_with (first | (go_at_call 150;refine (Qcz _ _).mono ?_;rintro e w' ⟨rfl,rfl⟩) | (go_at_call 152;refine (Qb1 _ _).mono ?_;rintro e w' ⟨rfl,rfl⟩) | (go_at_call 154;refine (Qdp _ _).mono ?_;rintro e w' ⟨rfl,rfl⟩) | (go_at_call 153;refine (Qj4 _ _ h0 HS.out).mono ?_;rintro e w' ⟨rfl,rfl⟩) | (go_at_call 155;refine (Qhb _ _ h0 HT.out).mono ?_;rintro e w' ⟨rfl,rfl⟩) | (go_at_call 156;refine (Qhc _ _ h0 HT.out).mono ?_;rintro e w' ⟨rfl,rfl⟩) | (go_at_call 157;refine (Qj2 _ _ h0 HT.out).mono ?_;rintro e w' ⟨rfl,rfl⟩))
  go_ret3
  exact ⟨Qbz 0 0 1 (by unfold Qbe;rw [H0.out,xO ha]) rfl rfl rfl,rfl⟩
 ·have HA:=hQ (show ¬ Qaq (at' (suf s 0) 0)=false from by rw [H0.out,ha];decide)
  cases hl:Qaw s[0].toNat
  ·have HL:=hQ (show ¬ Qaw (at' (suf s 0) 0)=true from by rw [H0.out,hl];decide)
   cases hd:Qb4 s[0].toNat
   ·have HD:=hQ (show ¬ Qb4 (at' (suf s 0) 0)=true from by rw [H0.out,hd];decide)
    by_cases h34:s[0].toNat=34
    ·have g34:((s[0].toNat:Int)==34)=true:=Qda h34
     have H34:=hQ (show at' (suf s 0) 0=34 from by rw [H0.out,h34])
     clear h34
     go_enter Tryz.func106,Tryz.ntmps106
     go_wp2_with (first | (go_at_call 150;refine (Qcz _ _).mono ?_;rintro e w' ⟨rfl,rfl⟩) | (go_at_call 152;refine (Qb1 _ _).mono ?_;rintro e w' ⟨rfl,rfl⟩) | (go_at_call 154;refine (Qdp _ _).mono ?_;rintro e w' ⟨rfl,rfl⟩) | (go_at_call 153;refine (Qj4 _ _ h0 HS.out).mono ?_;rintro e w' ⟨rfl,rfl⟩) | (go_at_call 155;refine (Qhb _ _ h0 HT.out).mono ?_;rintro e w' ⟨rfl,rfl⟩) | (go_at_call 156;refine (Qhc _ _ h0 HT.out).mono ?_;rintro e w' ⟨rfl,rfl⟩) | (go_at_call 157;refine (Qj2 _ _ h0 HT.out).mono ?_;rintro e w' ⟨rfl,rfl⟩))
     go_ret3
     exact ⟨Qbz _ _ _ (show Qbe (suf s 0)=Qc4 1 (suf s 1) from by unfold Qbe;rw [xN HA.out,xN HL.out,xN HD.out,xO H34.out,Zhq]) rfl rfl rfl,rfl⟩
    ·have g34:((s[0].toNat:Int)==34)=false:=Qdw h34
     have H34:=hQ (show ¬ at' (suf s 0) 0=34 from by rw [H0.out];exact h34)
     clear h34
     go_enter Tryz.func106,Tryz.ntmps106
     go_wp2_with (first | (go_at_call 150;refine (Qcz _ _).mono ?_;rintro e w' ⟨rfl,rfl⟩) | (go_at_call 152;refine (Qb1 _ _).mono ?_;rintro e w' ⟨rfl,rfl⟩) | (go_at_call 154;refine (Qdp _ _).mono ?_;rintro e w' ⟨rfl,rfl⟩) | (go_at_call 153;refine (Qj4 _ _ h0 HS.out).mono ?_;rintro e w' ⟨rfl,rfl⟩) | (go_at_call 155;refine (Qhb _ _ h0 HT.out).mono ?_;rintro e w' ⟨rfl,rfl⟩) | (go_at_call 156;refine (Qhc _ _ h0 HT.out).mono ?_;rintro e w' ⟨rfl,rfl⟩) | (go_at_call 157;refine (Qj2 _ _ h0 HT.out).mono ?_;rintro e w' ⟨rfl,rfl⟩))
     go_ret3
     exact ⟨Qbz _ _ _ (show Qbe (suf s 0)=Qea (suf s 0) from by unfold Qbe;rw [xN HA.out,xN HL.out,xN HD.out,xN H34.out]) rfl rfl rfl,rfl⟩
   ·have HD:=hQ (show Qb4 (at' (suf s 0) 0)=true from by rw [H0.out,hd])
    go_enter Tryz.func106,Tryz.ntmps106
    go_wp2_with (first | (go_at_call 150;refine (Qcz _ _).mono ?_;rintro e w' ⟨rfl,rfl⟩) | (go_at_call 152;refine (Qb1 _ _).mono ?_;rintro e w' ⟨rfl,rfl⟩) | (go_at_call 154;refine (Qdp _ _).mono ?_;rintro e w' ⟨rfl,rfl⟩) | (go_at_call 153;refine (Qj4 _ _ h0 HS.out).mono ?_;rintro e w' ⟨rfl,rfl⟩) | (go_at_call 155;refine (Qhb _ _ h0 HT.out).mono ?_;rintro e w' ⟨rfl,rfl⟩) | (go_at_call 156;refine (Qhc _ _ h0 HT.out).mono ?_;rintro e w' ⟨rfl,rfl⟩) | (go_at_call 157;refine (Qj2 _ _ h0 HT.out).mono ?_;rintro e w' ⟨rfl,rfl⟩))
    go_ret3
    exact ⟨Qbz _ _ _ (show Qbe (suf s 0)=Qjc (suf s 0) from by unfold Qbe;rw [xN HA.out,xN HL.out,xO HD.out]) rfl rfl rfl,rfl⟩
  ·have HL:=hQ (show Qaw (at' (suf s 0) 0)=true from by rw [H0.out,hl])
   go_enter Tryz.func106,Tryz.ntmps106
   go_wp2_with (first | (go_at_call 150;refine (Qcz _ _).mono ?_;rintro e w' ⟨rfl,rfl⟩) | (go_at_call 152;refine (Qb1 _ _).mono ?_;rintro e w' ⟨rfl,rfl⟩) | (go_at_call 154;refine (Qdp _ _).mono ?_;rintro e w' ⟨rfl,rfl⟩) | (go_at_call 153;refine (Qj4 _ _ h0 HS.out).mono ?_;rintro e w' ⟨rfl,rfl⟩) | (go_at_call 155;refine (Qhb _ _ h0 HT.out).mono ?_;rintro e w' ⟨rfl,rfl⟩) | (go_at_call 156;refine (Qhc _ _ h0 HT.out).mono ?_;rintro e w' ⟨rfl,rfl⟩) | (go_at_call 157;refine (Qj2 _ _ h0 HT.out).mono ?_;rintro e w' ⟨rfl,rfl⟩))
   go_ret3
   exact ⟨Qbz _ _ _ (show Qbe (suf s 0)=Qdo (suf s 0) from by unfold Qbe;rw [xN HA.out,xO HL.out]) rfl rfl rfl,rfl⟩
end Go.Proofs.YtclkilljmdkfaaaGreat
