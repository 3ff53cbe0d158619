/- Part 2: The contracts of lex's tests of bytes, of skip and of Trivia. -/
import Derived.Test.YtclkilljmdkfaaaTy1
import Derived.Test.YtclkilljmdkfaaaRows
import Derived.WalkKit
import Derived.WalkSpells
import Derived.WalkLawsBesides
import Derived.Lib.Hide
import Derived.Deep.LoopGhost
import Derived.Deep.QuietTactic
import Derived.BigQuiet
set_option maxRecDepth 100000
set_option maxHeartbeats 4000000
namespace Go.Proofs.Ytclkilljmdkfaaa
open Go.RowKit
theorem Qfa {a b:Bool} (h:a = b):Ending.returned (.bool a) = .returned (.bool b):=by rw [h]
theorem Qer (c:Int) (w:World):Calls Try.prog 62 #[.int .u8 c] w fun e w'=>e = .returned (.bool (whiteB c)) ∧ w = w':=by
 go_enter Try.func62,Try.ntmps62
 go_wp2
 all_goals
  go_ret
  exact ⟨Qfa (by simp_all [whiteB];try omega),rfl⟩
theorem Qdk (c:Int) (w:World):Calls Try.prog 89 #[.int .u8 c] w fun e w'=>e = .returned (.bool (Qcz c)) ∧ w = w':=by
 go_enter Try.func89,Try.ntmps89
 go_wp2
 all_goals
  go_ret
  exact ⟨Qfa (by simp_all [Qcz];try omega),rfl⟩
theorem Qb1 (c:Int) (w:World):Calls Try.prog 65 #[.int .u8 c] w fun e w'=>e = .returned (.bool (Qcb c)) ∧ w = w':=by
 go_enter Try.func65,Try.ntmps65
 go_wp2
 all_goals
  go_ret
  exact ⟨Qfa (by simp_all [Qcb];try omega),rfl⟩
theorem Qaz (c:Int) (w:World):Calls Try.prog 63 #[.int .u8 c] w fun e w'=>e = .returned (.bool (Qb5 c)) ∧ w = w':=by
 go_enter Try.func63,Try.ntmps63
 go_wp2_with (first | (go_at_call 89;refine (Qdk _ _).mono ?_;rintro e w' ⟨rfl,rfl⟩))
 all_goals
  go_ret
  exact ⟨Qfa (by simp_all [Qb5,lowerB];try omega),rfl⟩
theorem Qbi (c:Int) (w:World):Calls Try.prog 61 #[.int .u8 c] w fun e w'=>e = .returned (.bool (Qar c)) ∧ w = w':=by
 go_enter Try.func61,Try.ntmps61
 go_wp2_with (first | (go_at_call 62;refine (Qer _ _).mono ?_;rintro e w' ⟨rfl,rfl⟩))
 all_goals
  go_ret
  exact ⟨Qfa (by simp_all [Qar];try omega),rfl⟩
theorem ret_two {a b:Int} {c d:Bool} (h:a = b) (h':c = d):Ending.returned (.tuple #[.int .i64 a,.bool c]) = .returned (.tuple #[.int .i64 b,.bool d]):=by rw [h,h']
theorem bne_ten (n:Nat):(n != 10) = ((n:Int) != 10):=by rw [Bool.eq_iff_iff];simp;omega
theorem skip_any (s:ByteArray) (i:Nat) (w:World) (hi:i ≤ s.size) (hs:s.size ≤ maxLen) :
  Calls Try.prog 42 #[.string s,.int .i64 i] w fun e w'=>e = .returned (.tuple #[.int .i64 (Qag s i:Nat),.bool (Qcu s i)]) ∧ w = w':=by
 unfold maxLen at hs
 have hst:=hQ (SkipAt.start s i hi)
 go_enter Try.func42,Try.ntmps42
 go_wp2
 go_step3
 go_wp2
 go_step3
 go_wp2
 go_loop [1,5] (fun a b=>∃ (k:Nat) (o:Bool),k ≤ s.size ∧ a = .int .i64 k ∧ b = .bool o ∧ SkipAt s i k o) (fun a _=>s.size - (intOf a).toNat)
 case atStart=>exact ⟨i,false,hi,rfl,rfl,hst.out⟩
 case round =>
  obtain ⟨k,o,hk,rfl,rfl,hrel⟩:=hrel
  have HR:=hQ hrel
  clear hrel hst
  by_cases hlt:k < s.size
  ·cases ha:Qar s[k].toNat
   ·go_wp2_with (first | (go_at_call 61;refine (Qbi _ _).mono ?_;rintro e w' ⟨rfl,rfl⟩) | (go_at_call 62;refine (Qer _ _).mono ?_;rintro e w' ⟨rfl,rfl⟩))
    try rw [Exit.noGoto_ret]
    go_ret2
    obtain ⟨h1,h2⟩:=HR.out.bad hlt ha
    exact ⟨ret_two (by rw [h1]) (by rw [h2]),rfl⟩
   ·cases o
    ·by_cases hc:s[k].toNat = 35
     ·have hc':((s[k].toNat:Int) == 35) = true:=by simp [hc]
      have HC:=hQ hc
      clear hc
      go_wp2_with (first | (go_at_call 61;refine (Qbi _ _).mono ?_;rintro e w' ⟨rfl,rfl⟩) | (go_at_call 62;refine (Qer _ _).mono ?_;rintro e w' ⟨rfl,rfl⟩))
      go_round
      case rel=>exact ⟨k + 1,true,by omega,by go_num,rfl,HR.out.opens hlt HC.out⟩
      case measure=>simp [intOf];omega
     ·have hc':((s[k].toNat:Int) == 35) = false:=by simp;omega
      have HC:=hQ hc
      clear hc
      cases hw:whiteB s[k].toNat
      ·go_wp2_with (first | (go_at_call 61;refine (Qbi _ _).mono ?_;rintro e w' ⟨rfl,rfl⟩) | (go_at_call 62;refine (Qer _ _).mono ?_;rintro e w' ⟨rfl,rfl⟩))
       try rw [Exit.noGoto_ret]
       go_ret2
       obtain ⟨h1,h2⟩:=HR.out.other hlt hw HC.out
       exact ⟨ret_two (by rw [h1]) (by rw [h2]),rfl⟩
      ·go_wp2_with (first | (go_at_call 61;refine (Qbi _ _).mono ?_;rintro e w' ⟨rfl,rfl⟩) | (go_at_call 62;refine (Qer _ _).mono ?_;rintro e w' ⟨rfl,rfl⟩))
       go_round
       case rel=>exact ⟨k + 1,false,by omega,by go_num,rfl,HR.out.white hlt hw⟩
       case measure=>simp [intOf];omega
    ·go_wp2_with (first | (go_at_call 61;refine (Qbi _ _).mono ?_;rintro e w' ⟨rfl,rfl⟩) | (go_at_call 62;refine (Qer _ _).mono ?_;rintro e w' ⟨rfl,rfl⟩))
     go_round
     case rel=>exact ⟨k + 1,(s[k].toNat != 10),by omega,by go_num,by rw [bne_ten],HR.out.inside hlt ha⟩
     case measure=>simp [intOf];omega
  ·go_wp2
   try rw [Exit.noGoto_ret]
   go_ret2
   obtain ⟨h1,h2⟩:=HR.out.done hlt
   exact ⟨ret_two (by rw [h1]) (by rw [h2]),rfl⟩
end Go.Proofs.Ytclkilljmdkfaaa
