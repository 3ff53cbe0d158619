/- Part 2 -/
import Derived.Test.YtjidpkcjpgdafaaGreatSf1
import Derived.Test.YtjidpkcjpgdafaaGreatRows
import Derived.WalkKit
import Derived.WalkSpells
import Derived.WalkLawsBesides
import Derived.Lib.Hide
import Derived.Deep.LoopGhost
import Derived.Deep.QuietTactic
import Derived.BigQuiet
set_option maxRecDepth 100000
set_option maxHeartbeats 4000000
namespace Go.Proofs.YtjidpkcjpgdafaaGreat
open Go.RowKit
theorem Qag {a b:Bool} (h:a=b):Ending.returned (.bool a) = .returned (.bool b):=by rw [h]
theorem Qfp (c:Int) (w:World):Calls Tryz.prog 165 #[.int .u8 c] w fun e w'=>e = .returned (.bool (Qea c))∧w=w':=by
 go_enter Tryz.func165,Tryz.ntmps165
 go_wp2
 all_goals
  go_ret
  exact ⟨Qag (by simp_all [Qea];try omega),rfl⟩
theorem Qel (c:Int) (w:World):Calls Tryz.prog 217 #[.int .u8 c] w fun e w'=>e = .returned (.bool (Qbc c))∧w=w':=by
 go_enter Tryz.func217,Tryz.ntmps217
 go_wp2
 all_goals
  go_ret
  exact ⟨Qag (by simp_all [Qbc];try omega),rfl⟩
theorem Qcj (c:Int) (w:World):Calls Tryz.prog 168 #[.int .u8 c] w fun e w'=>e = .returned (.bool (Qbd c))∧w=w':=by
 go_enter Tryz.func168,Tryz.ntmps168
 go_wp2
 all_goals
  go_ret
  exact ⟨Qag (by simp_all [Qbd];try omega),rfl⟩
theorem Qa8 (c:Int) (w:World):Calls Tryz.prog 166 #[.int .u8 c] w fun e w'=>e = .returned (.bool (Qai c))∧w=w':=by
 go_enter Tryz.func166,Tryz.ntmps166
 go_wp2_with (first | (go_at_call 217;refine (Qel _ _).mono ?_;rintro e w' ⟨rfl,rfl⟩))
 all_goals
  go_ret
  exact ⟨Qag (by simp_all [Qai,Qgc];try omega),rfl⟩
theorem Qbx (c:Int) (w:World):Calls Tryz.prog 164 #[.int .u8 c] w fun e w'=>e = .returned (.bool (Qal c))∧w=w':=by
 go_enter Tryz.func164,Tryz.ntmps164
 go_wp2_with (first | (go_at_call 165;refine (Qfp _ _).mono ?_;rintro e w' ⟨rfl,rfl⟩))
 all_goals
  go_ret
  exact ⟨Qag (by simp_all [Qal];try omega),rfl⟩
theorem Qew (c:Int) (w:World):Calls Tryz.prog 235 #[.int .u8 c] w fun e w'=>e = .returned (.bool (Qea c))∧w=w':=by
 go_enter Tryz.func235,Tryz.ntmps235
 go_wp2
 all_goals
  go_ret
  exact ⟨Qag (by simp_all [Qea];try omega),rfl⟩
theorem Qaj (c:Int) (w:World):Calls Tryz.prog 250 #[.int .u8 c] w fun e w'=>e = .returned (.bool (Qbc c))∧w=w':=by
 go_enter Tryz.func250,Tryz.ntmps250
 go_wp2
 all_goals
  go_ret
  exact ⟨Qag (by simp_all [Qbc];try omega),rfl⟩
theorem Qat (c:Int) (w:World):Calls Tryz.prog 249 #[.int .u8 c] w fun e w'=>e = .returned (.bool (Qgc c))∧w=w':=by
 go_enter Tryz.func249,Tryz.ntmps249
 go_wp2
 all_goals
  go_ret
  exact ⟨Qag (by simp_all [Qgc];try omega),rfl⟩
theorem Qbg (c:Int) (w:World):Calls Tryz.prog 248 #[.int .u8 c] w fun e w'=>e = .returned (.bool (Qbd c))∧w=w':=by
 go_enter Tryz.func248,Tryz.ntmps248
 go_wp2
 all_goals
  go_ret
  exact ⟨Qag (by simp_all [Qbd];try omega),rfl⟩
theorem Qav (c:Int) (w:World):Calls Tryz.prog 247 #[.int .u8 c] w fun e w'=>e = .returned (.bool (Qet c))∧w=w':=by
 go_enter Tryz.func247,Tryz.ntmps247
 go_wp2
 all_goals
  go_ret
  exact ⟨Qag (by simp_all [Qet];try omega),rfl⟩
theorem Qaz (c:Int) (w:World):Calls Tryz.prog 246 #[.int .u8 c] w fun e w'=>e = .returned (.bool (Qal c))∧w=w':=by
 go_enter Tryz.func246,Tryz.ntmps246
 go_wp2_with (first | (go_at_call 235;refine (Qew _ _).mono ?_;rintro e w' ⟨rfl,rfl⟩) | (go_at_call 247;refine (Qav _ _).mono ?_;rintro e w' ⟨rfl,rfl⟩))
 all_goals
  go_ret
  exact ⟨Qag (by simp_all [Qgg]),rfl⟩
theorem Qdw (c:Int) (w:World):Calls Tryz.prog 257 #[.int .u8 c] w fun e w'=>e = .returned (.bool (Qgf c))∧w=w':=by
 go_enter Tryz.func257,Tryz.ntmps257
 go_wp2_with (first | (go_at_call 250;refine (Qaj _ _).mono ?_;rintro e w' ⟨rfl,rfl⟩) | (go_at_call 249;refine (Qat _ _).mono ?_;rintro e w' ⟨rfl,rfl⟩) | (go_at_call 248;refine (Qbg _ _).mono ?_;rintro e w' ⟨rfl,rfl⟩))
 all_goals
  go_ret
  exact ⟨Qag (by simp_all [Qgf,Qai];try omega),rfl⟩
theorem Qoi {a b:Int} {c d:Bool} (h:a=b) (h':c=d):Ending.returned (.tuple #[.int .i64 a,.bool c]) = .returned (.tuple #[.int .i64 b,.bool d]):=by rw [h,h']
theorem Qxq (n:Nat):(n != 10)=((n:Int) != 10):=by rw [Bool.eq_iff_iff];simp;omega
theorem Ql6 (s:ByteArray) (i:Nat) (w:World) (hi:i≤s.size) (hs:s.size≤maxLen) :
  Calls Tryz.prog 122 #[.string s,.int .i64 i] w fun e w'=>e = .returned (.tuple #[.int .i64 (Qak s i:Nat),.bool (Qdt s i)])∧w=w':=by
 unfold maxLen at hs
 have hst:=hQ (SkipAt.start s i hi)
 go_enter Tryz.func122,Tryz.ntmps122
 go_wp2
 go_step3
 go_wp2
 go_step3
 go_wp2
 go_loop [1,5] (fun a b=>∃ (k:Nat) (o:Bool),k≤s.size∧a = .int .i64 k∧b = .bool o∧SkipAt s i k o) (fun a _=>s.size-(intOf a).toNat)
 case atStart=>exact ⟨i,false,hi,rfl,rfl,hst.out⟩
 case round =>
  obtain ⟨k,o,hk,rfl,rfl,hrel⟩:=hrel
  have HR:=hQ hrel
  clear hrel hst
  by_cases hlt:k<s.size
  ·cases ha:Qal s[k].toNat
   ·go_wp2_with (first | (go_at_call 164;refine (Qbx _ _).mono ?_;rintro e w' ⟨rfl,rfl⟩) | (go_at_call 165;refine (Qfp _ _).mono ?_;rintro e w' ⟨rfl,rfl⟩))
    try rw [Exit.noGoto_ret]
    go_ret2
    obtain ⟨h1,h2⟩:=HR.out.bad hlt ha
    exact ⟨Qoi (by rw [h1]) (by rw [h2]),rfl⟩
   ·cases o
    ·by_cases hc:s[k].toNat=35
     ·have hc':((s[k].toNat:Int)==35)=true:=by simp [hc]
      have HC:=hQ hc
      clear hc
      go_wp2_with (first | (go_at_call 164;refine (Qbx _ _).mono ?_;rintro e w' ⟨rfl,rfl⟩) | (go_at_call 165;refine (Qfp _ _).mono ?_;rintro e w' ⟨rfl,rfl⟩))
      go_round
      case rel=>exact ⟨k+1,true,by omega,by go_num,rfl,HR.out.opens hlt HC.out⟩
      case measure=>simp [intOf];omega
     ·have hc':((s[k].toNat:Int)==35)=false:=by simp;omega
      have HC:=hQ hc
      clear hc
      cases hw:Qea s[k].toNat
      ·go_wp2_with (first | (go_at_call 164;refine (Qbx _ _).mono ?_;rintro e w' ⟨rfl,rfl⟩) | (go_at_call 165;refine (Qfp _ _).mono ?_;rintro e w' ⟨rfl,rfl⟩))
       try rw [Exit.noGoto_ret]
       go_ret2
       obtain ⟨h1,h2⟩:=HR.out.other hlt hw HC.out
       exact ⟨Qoi (by rw [h1]) (by rw [h2]),rfl⟩
      ·go_wp2_with (first | (go_at_call 164;refine (Qbx _ _).mono ?_;rintro e w' ⟨rfl,rfl⟩) | (go_at_call 165;refine (Qfp _ _).mono ?_;rintro e w' ⟨rfl,rfl⟩))
       go_round
       case rel=>exact ⟨k+1,false,by omega,by go_num,rfl,HR.out.white hlt hw⟩
       case measure=>simp [intOf];omega
    ·go_wp2_with (first | (go_at_call 164;refine (Qbx _ _).mono ?_;rintro e w' ⟨rfl,rfl⟩) | (go_at_call 165;refine (Qfp _ _).mono ?_;rintro e w' ⟨rfl,rfl⟩))
     go_round
     case rel=>exact ⟨k+1,(s[k].toNat != 10),by omega,by go_num,by rw [Qxq],HR.out.inside hlt ha⟩
     case measure=>simp [intOf];omega
  ·go_wp2
   try rw [Exit.noGoto_ret]
   go_ret2
   obtain ⟨h1,h2⟩:=HR.out.done hlt
   exact ⟨Qoi (by rw [h1]) (by rw [h2]),rfl⟩
end Go.Proofs.YtjidpkcjpgdafaaGreat
