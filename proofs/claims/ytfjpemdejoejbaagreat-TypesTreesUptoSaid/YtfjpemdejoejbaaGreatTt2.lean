/- Part 2 -/
import Derived.Test.YtfjpemdejoejbaaGreatTt1
import Derived.Test.YtfjpemdejoejbaaGreatRows
import Derived.WalkKit
import Derived.WalkSpells
import Derived.WalkLawsBesides
import Derived.Lib.Hide
import Derived.Deep.LoopGhost
import Derived.Deep.QuietTactic
import Derived.BigQuiet
set_option maxRecDepth 100000
set_option maxHeartbeats 4000000
namespace Go.Proofs.YtfjpemdejoejbaaGreat
open Go.RowKit
theorem Qam {a b:Bool} (h:a=b):Ending.returned (.bool a) = .returned (.bool b):=by rw [h]
theorem Qf2 (c:Int) (w:World):Calls Tryz.prog 115 #[.int .u8 c] w fun e w'=>e = .returned (.bool (Qeo c))∧w=w':=by
 go_enter Tryz.func115,Tryz.ntmps115
 go_wp2
 all_goals
  go_ret
  exact ⟨Qam (by simp_all [Qeo];try omega),rfl⟩
theorem Qe0 (c:Int) (w:World):Calls Tryz.prog 150 #[.int .u8 c] w fun e w'=>e = .returned (.bool (Qbf c))∧w=w':=by
 go_enter Tryz.func150,Tryz.ntmps150
 go_wp2
 all_goals
  go_ret
  exact ⟨Qam (by simp_all [Qbf];try omega),rfl⟩
theorem Qcx (c:Int) (w:World):Calls Tryz.prog 118 #[.int .u8 c] w fun e w'=>e = .returned (.bool (Qbm c))∧w=w':=by
 go_enter Tryz.func118,Tryz.ntmps118
 go_wp2
 all_goals
  go_ret
  exact ⟨Qam (by simp_all [Qbm];try omega),rfl⟩
theorem Qbk (c:Int) (w:World):Calls Tryz.prog 116 #[.int .u8 c] w fun e w'=>e = .returned (.bool (Qai c))∧w=w':=by
 go_enter Tryz.func116,Tryz.ntmps116
 go_wp2_with (first | (go_at_call 150;refine (Qe0 _ _).mono ?_;rintro e w' ⟨rfl,rfl⟩))
 all_goals
  go_ret
  exact ⟨Qam (by simp_all [Qai,Qgv];try omega),rfl⟩
theorem Qcb (c:Int) (w:World):Calls Tryz.prog 114 #[.int .u8 c] w fun e w'=>e = .returned (.bool (Qaq c))∧w=w':=by
 go_enter Tryz.func114,Tryz.ntmps114
 go_wp2_with (first | (go_at_call 115;refine (Qf2 _ _).mono ?_;rintro e w' ⟨rfl,rfl⟩))
 all_goals
  go_ret
  exact ⟨Qam (by simp_all [Qaq];try omega),rfl⟩
theorem Qfa (c:Int) (w:World):Calls Tryz.prog 137 #[.int .u8 c] w fun e w'=>e = .returned (.bool (Qeo c))∧w=w':=by
 go_enter Tryz.func137,Tryz.ntmps137
 go_wp2
 all_goals
  go_ret
  exact ⟨Qam (by simp_all [Qeo];try omega),rfl⟩
theorem Qan (c:Int) (w:World):Calls Tryz.prog 164 #[.int .u8 c] w fun e w'=>e = .returned (.bool (Qbf c))∧w=w':=by
 go_enter Tryz.func164,Tryz.ntmps164
 go_wp2
 all_goals
  go_ret
  exact ⟨Qam (by simp_all [Qbf];try omega),rfl⟩
theorem Qa3 (c:Int) (w:World):Calls Tryz.prog 163 #[.int .u8 c] w fun e w'=>e = .returned (.bool (Qgv c))∧w=w':=by
 go_enter Tryz.func163,Tryz.ntmps163
 go_wp2
 all_goals
  go_ret
  exact ⟨Qam (by simp_all [Qgv];try omega),rfl⟩
theorem Qbt (c:Int) (w:World):Calls Tryz.prog 162 #[.int .u8 c] w fun e w'=>e = .returned (.bool (Qbm c))∧w=w':=by
 go_enter Tryz.func162,Tryz.ntmps162
 go_wp2
 all_goals
  go_ret
  exact ⟨Qam (by simp_all [Qbm];try omega),rfl⟩
theorem Qa7 (c:Int) (w:World):Calls Tryz.prog 161 #[.int .u8 c] w fun e w'=>e = .returned (.bool (Qe7 c))∧w=w':=by
 go_enter Tryz.func161,Tryz.ntmps161
 go_wp2
 all_goals
  go_ret
  exact ⟨Qam (by simp_all [Qe7];try omega),rfl⟩
theorem Qbd (c:Int) (w:World):Calls Tryz.prog 160 #[.int .u8 c] w fun e w'=>e = .returned (.bool (Qaq c))∧w=w':=by
 go_enter Tryz.func160,Tryz.ntmps160
 go_wp2_with (first | (go_at_call 137;refine (Qfa _ _).mono ?_;rintro e w' ⟨rfl,rfl⟩) | (go_at_call 161;refine (Qa7 _ _).mono ?_;rintro e w' ⟨rfl,rfl⟩))
 all_goals
  go_ret
  exact ⟨Qam (by simp_all [Qgx]),rfl⟩
theorem Qd5 (c:Int) (w:World):Calls Tryz.prog 174 #[.int .u8 c] w fun e w'=>e = .returned (.bool (Qf0 c))∧w=w':=by
 go_enter Tryz.func174,Tryz.ntmps174
 go_wp2_with (first | (go_at_call 164;refine (Qan _ _).mono ?_;rintro e w' ⟨rfl,rfl⟩) | (go_at_call 163;refine (Qa3 _ _).mono ?_;rintro e w' ⟨rfl,rfl⟩) | (go_at_call 162;refine (Qbt _ _).mono ?_;rintro e w' ⟨rfl,rfl⟩))
 all_goals
  go_ret
  exact ⟨Qam (by simp_all [Qf0,Qai];try omega),rfl⟩
theorem Qp4 {a b:Int} {c d:Bool} (h:a=b) (h':c=d):Ending.returned (.tuple #[.int .i64 a,.bool c]) = .returned (.tuple #[.int .i64 b,.bool d]):=by rw [h,h']
theorem Zb0 (n:Nat):(n != 10)=((n:Int) != 10):=by rw [Bool.eq_iff_iff];simp;omega
theorem Qmz (s:ByteArray) (i:Nat) (w:World) (hi:i≤s.size) (hs:s.size≤maxLen) :
  Calls Tryz.prog 81 #[.string s,.int .i64 i] w fun e w'=>e = .returned (.tuple #[.int .i64 (Qao s i:Nat),.bool (Qd1 s i)])∧w=w':=by
 unfold maxLen at hs;have hst:=hQ (SkipAt.start s i hi)
 go_enter Tryz.func81,Tryz.ntmps81
 go_wp2
 go_step3
 go_wp2
 go_step3
 go_wp2
 go_loop [1,5] (fun a b=>∃ (k:Nat) (o:Bool),k≤s.size∧a = .int .i64 k∧b = .bool o∧SkipAt s i k o) (fun a _=>s.size-(intOf a).toNat)
 case atStart=>exact ⟨i,false,hi,rfl,rfl,hst.out⟩
 case round =>
  obtain ⟨k,o,hk,rfl,rfl,hrel⟩:=hrel;have HR:=hQ hrel;clear hrel hst
  by_cases hlt:k<s.size
  ·cases ha:Qaq s[k].toNat
   ·go_wp2_with (first | (go_at_call 114;refine (Qcb _ _).mono ?_;rintro e w' ⟨rfl,rfl⟩) | (go_at_call 115;refine (Qf2 _ _).mono ?_;rintro e w' ⟨rfl,rfl⟩))
    try rw [Exit.noGoto_ret]
    go_ret2
    obtain ⟨h1,h2⟩:=HR.out.bad hlt ha;exact ⟨Qp4 (by rw [h1]) (by rw [h2]),rfl⟩
   ·cases o
    ·by_cases hc:s[k].toNat=35
     ·have hc':((s[k].toNat:Int)==35)=true:=by simp [hc]
      have HC:=hQ hc;clear hc;go_wp2_with (first | (go_at_call 114;refine (Qcb _ _).mono ?_;rintro e w' ⟨rfl,rfl⟩) | (go_at_call 115;refine (Qf2 _ _).mono ?_;rintro e w' ⟨rfl,rfl⟩))
      go_round
      case rel=>exact ⟨k+1,true,by omega,by go_num,rfl,HR.out.opens hlt HC.out⟩
      case measure=>simp [intOf];omega
     ·have hc':((s[k].toNat:Int)==35)=false:=by simp;omega
      have HC:=hQ hc;clear hc
      cases hw:Qeo s[k].toNat
      ·go_wp2_with (first | (go_at_call 114;refine (Qcb _ _).mono ?_;rintro e w' ⟨rfl,rfl⟩) | (go_at_call 115;refine (Qf2 _ _).mono ?_;rintro e w' ⟨rfl,rfl⟩))
       try rw [Exit.noGoto_ret]
       go_ret2
       obtain ⟨h1,h2⟩:=HR.out.other hlt hw HC.out;exact ⟨Qp4 (by rw [h1]) (by rw [h2]),rfl⟩
      ·go_wp2_with (first | (go_at_call 114;refine (Qcb _ _).mono ?_;rintro e w' ⟨rfl,rfl⟩) | (go_at_call 115;refine (Qf2 _ _).mono ?_;rintro e w' ⟨rfl,rfl⟩))
       go_round
       case rel=>exact ⟨k+1,false,by omega,by go_num,rfl,HR.out.white hlt hw⟩
       case measure=>simp [intOf];omega
    ·go_wp2_with (first | (go_at_call 114;refine (Qcb _ _).mono ?_;rintro e w' ⟨rfl,rfl⟩) | (go_at_call 115;refine (Qf2 _ _).mono ?_;rintro e w' ⟨rfl,rfl⟩))
     go_round
     case rel=>exact ⟨k+1,(s[k].toNat != 10),by omega,by go_num,by rw [Zb0],HR.out.inside hlt ha⟩
     case measure=>simp [intOf];omega
  ·go_wp2
   try rw [Exit.noGoto_ret]
   go_ret2
   obtain ⟨h1,h2⟩:=HR.out.done hlt;exact ⟨Qp4 (by rw [h1]) (by rw [h2]),rfl⟩
end Go.Proofs.YtfjpemdejoejbaaGreat
