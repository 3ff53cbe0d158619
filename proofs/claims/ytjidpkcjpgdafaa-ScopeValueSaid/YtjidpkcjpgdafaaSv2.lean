/- Part 2: The contracts of lex's tests of bytes, of skip and of Trivia. -/
import Derived.Test.YtjidpkcjpgdafaaSv1
import Derived.Test.YtjidpkcjpgdafaaRows
import Derived.WalkKit
import Derived.WalkSpells
import Derived.WalkLawsBesides
import Derived.Lib.Hide
import Derived.Deep.LoopGhost
import Derived.Deep.QuietTactic
import Derived.BigQuiet
set_option maxRecDepth 100000
set_option maxHeartbeats 4000000
namespace Go.Proofs.Ytjidpkcjpgdafaa
open Go.RowKit
theorem Qca {a b:Bool} (h:a = b):Ending.returned (.bool a) = .returned (.bool b):=by rw [h]
theorem Qdi (c:Int) (w:World):Calls Try.prog 51 #[.int .u8 c] w fun e w'=>e = .returned (.bool (whiteB c)) ∧ w = w':=by
 go_enter Try.func51,Try.ntmps51
 go_wp2
 all_goals
  go_ret
  exact ⟨Qca (by simp_all [whiteB];try omega),rfl⟩
theorem Qco (c:Int) (w:World):Calls Try.prog 71 #[.int .u8 c] w fun e w'=>e = .returned (.bool (Qc5 c)) ∧ w = w':=by
 go_enter Try.func71,Try.ntmps71
 go_wp2
 all_goals
  go_ret
  exact ⟨Qca (by simp_all [Qc5];try omega),rfl⟩
theorem Qbd (c:Int) (w:World):Calls Try.prog 54 #[.int .u8 c] w fun e w'=>e = .returned (.bool (Qbm c)) ∧ w = w':=by
 go_enter Try.func54,Try.ntmps54
 go_wp2
 all_goals
  go_ret
  exact ⟨Qca (by simp_all [Qbm];try omega),rfl⟩
theorem Qaq (c:Int) (w:World):Calls Try.prog 52 #[.int .u8 c] w fun e w'=>e = .returned (.bool (Qbf c)) ∧ w = w':=by
 go_enter Try.func52,Try.ntmps52
 go_wp2_with (first | (go_at_call 71;refine (Qco _ _).mono ?_;rintro e w' ⟨rfl,rfl⟩))
 all_goals
  go_ret
  exact ⟨Qca (by simp_all [Qbf,lowerB];try omega),rfl⟩
theorem Qaz (c:Int) (w:World):Calls Try.prog 50 #[.int .u8 c] w fun e w'=>e = .returned (.bool (Qal c)) ∧ w = w':=by
 go_enter Try.func50,Try.ntmps50
 go_wp2_with (first | (go_at_call 51;refine (Qdi _ _).mono ?_;rintro e w' ⟨rfl,rfl⟩))
 all_goals
  go_ret
  exact ⟨Qca (by simp_all [Qal];try omega),rfl⟩
theorem ret_two {a b:Int} {c d:Bool} (h:a = b) (h':c = d):Ending.returned (.tuple #[.int .i64 a,.bool c]) = .returned (.tuple #[.int .i64 b,.bool d]):=by rw [h,h']
theorem bne_ten (n:Nat):(n != 10) = ((n:Int) != 10):=by rw [Bool.eq_iff_iff];simp;omega
theorem skip_any (s:ByteArray) (i:Nat) (w:World) (hi:i ≤ s.size) (hs:s.size ≤ maxLen) :
  Calls Try.prog 30 #[.string s,.int .i64 i] w fun e w'=>e = .returned (.tuple #[.int .i64 (Qag s i:Nat),.bool (Qbz s i)]) ∧ w = w':=by
 unfold maxLen at hs
 have hst:=hQ (SkipAt.start s i hi)
 go_enter Try.func30,Try.ntmps30
 go_wp2
 go_step3
 go_wp2
 go_step3
 go_wp2
 go_loop [1,5] (fun a b=>∃ (k:Nat) (o:Bool),k ≤ s.size ∧ a = .int .i64 k ∧ b = .bool o ∧ SkipAt s i k o) (fun a _=>s.size - (intOf a).toNat)
 case atStart=>exact ⟨i,false,hi,rfl,rfl,hst.out⟩
 case round =>
  obtain ⟨k,o,hk,rfl,rfl,hrel⟩:=hrel
  have HR:=hQ hrel
  clear hrel hst
  by_cases hlt:k < s.size
  ·cases ha:Qal s[k].toNat
   ·go_wp2_with (first | (go_at_call 50;refine (Qaz _ _).mono ?_;rintro e w' ⟨rfl,rfl⟩) | (go_at_call 51;refine (Qdi _ _).mono ?_;rintro e w' ⟨rfl,rfl⟩))
    try rw [Exit.noGoto_ret]
    go_ret2
    obtain ⟨h1,h2⟩:=HR.out.bad hlt ha
    exact ⟨ret_two (by rw [h1]) (by rw [h2]),rfl⟩
   ·cases o
    ·by_cases hc:s[k].toNat = 35
     ·have hc':((s[k].toNat:Int) == 35) = true:=by simp [hc]
      have HC:=hQ hc
      clear hc
      go_wp2_with (first | (go_at_call 50;refine (Qaz _ _).mono ?_;rintro e w' ⟨rfl,rfl⟩) | (go_at_call 51;refine (Qdi _ _).mono ?_;rintro e w' ⟨rfl,rfl⟩))
      go_round
      case rel=>exact ⟨k + 1,true,by omega,by go_num,rfl,HR.out.opens hlt HC.out⟩
      case measure=>simp [intOf];omega
     ·have hc':((s[k].toNat:Int) == 35) = false:=by simp;omega
      have HC:=hQ hc
      clear hc
      cases hw:whiteB s[k].toNat
      ·go_wp2_with (first | (go_at_call 50;refine (Qaz _ _).mono ?_;rintro e w' ⟨rfl,rfl⟩) | (go_at_call 51;refine (Qdi _ _).mono ?_;rintro e w' ⟨rfl,rfl⟩))
       try rw [Exit.noGoto_ret]
       go_ret2
       obtain ⟨h1,h2⟩:=HR.out.other hlt hw HC.out
       exact ⟨ret_two (by rw [h1]) (by rw [h2]),rfl⟩
      ·go_wp2_with (first | (go_at_call 50;refine (Qaz _ _).mono ?_;rintro e w' ⟨rfl,rfl⟩) | (go_at_call 51;refine (Qdi _ _).mono ?_;rintro e w' ⟨rfl,rfl⟩))
       go_round
       case rel=>exact ⟨k + 1,false,by omega,by go_num,rfl,HR.out.white hlt hw⟩
       case measure=>simp [intOf];omega
    ·go_wp2_with (first | (go_at_call 50;refine (Qaz _ _).mono ?_;rintro e w' ⟨rfl,rfl⟩) | (go_at_call 51;refine (Qdi _ _).mono ?_;rintro e w' ⟨rfl,rfl⟩))
     go_round
     case rel=>exact ⟨k + 1,(s[k].toNat != 10),by omega,by go_num,by rw [bne_ten],HR.out.inside hlt ha⟩
     case measure=>simp [intOf];omega
  ·go_wp2
   try rw [Exit.noGoto_ret]
   go_ret2
   obtain ⟨h1,h2⟩:=HR.out.done hlt
   exact ⟨ret_two (by rw [h1]) (by rw [h2]),rfl⟩
end Go.Proofs.Ytjidpkcjpgdafaa
