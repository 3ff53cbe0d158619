/- Part 2: The contracts of lex's tests of bytes, of skip and of Trivia. -/
import Derived.Test.YtnnfdbmanamfdaaGreatLw1
import Derived.Test.YtnnfdbmanamfdaaGreatRows
import Derived.WalkKit
import Derived.WalkSpells
import Derived.WalkLawsBesides
import Derived.Lib.Hide
import Derived.Deep.LoopGhost
import Derived.Deep.QuietTactic
import Derived.BigQuiet
set_option maxRecDepth 100000
set_option maxHeartbeats 4000000
namespace Go.Proofs.YtnnfdbmanamfdaaGreat
open Go.RowKit
theorem Qah {a b:Bool} (h:a = b):Ending.returned (.bool a) = .returned (.bool b):=by rw [h]
theorem Qgv (c:Int) (w:World):Calls Tryz.prog 112 #[.int .u8 c] w fun e w'=>e = .returned (.bool (Qd8 c)) ∧ w = w':=by
 go_enter Tryz.func112,Tryz.ntmps112
 go_wp2
 all_goals
  go_ret
  exact ⟨Qah (by simp_all [Qd8];try omega),rfl⟩
theorem Qfj (c:Int) (w:World):Calls Tryz.prog 154 #[.int .u8 c] w fun e w'=>e = .returned (.bool (Qbl c)) ∧ w = w':=by
 go_enter Tryz.func154,Tryz.ntmps154
 go_wp2
 all_goals
  go_ret
  exact ⟨Qah (by simp_all [Qbl];try omega),rfl⟩
theorem Qdn (c:Int) (w:World):Calls Tryz.prog 115 #[.int .u8 c] w fun e w'=>e = .returned (.bool (Qby c)) ∧ w = w':=by
 go_enter Tryz.func115,Tryz.ntmps115
 go_wp2
 all_goals
  go_ret
  exact ⟨Qah (by simp_all [Qby];try omega),rfl⟩
theorem Qbu (c:Int) (w:World):Calls Tryz.prog 113 #[.int .u8 c] w fun e w'=>e = .returned (.bool (Qat c)) ∧ w = w':=by
 go_enter Tryz.func113,Tryz.ntmps113
 go_wp2_with (first | (go_at_call 154;refine (Qfj _ _).mono ?_;rintro e w' ⟨rfl,rfl⟩))
 all_goals
  go_ret
  exact ⟨Qah (by simp_all [Qat,lowerB];try omega),rfl⟩
theorem Qcq (c:Int) (w:World):Calls Tryz.prog 111 #[.int .u8 c] w fun e w'=>e = .returned (.bool (Qaq c)) ∧ w = w':=by
 go_enter Tryz.func111,Tryz.ntmps111
 go_wp2_with (first | (go_at_call 112;refine (Qgv _ _).mono ?_;rintro e w' ⟨rfl,rfl⟩))
 all_goals
  go_ret
  exact ⟨Qah (by simp_all [Qaq];try omega),rfl⟩
theorem Qdo (c:Int) (w:World):Calls Tryz.prog 181 #[.int .u8 c] w fun e w'=>e = .returned (.bool (Qd8 c)) ∧ w = w':=by
 go_enter Tryz.func181,Tryz.ntmps181
 go_wp2
 all_goals
  go_ret
  exact ⟨Qah (by simp_all [Qd8];try omega),rfl⟩
theorem Qay (c:Int) (w:World):Calls Tryz.prog 191 #[.int .u8 c] w fun e w'=>e = .returned (.bool (Qbl c)) ∧ w = w':=by
 go_enter Tryz.func191,Tryz.ntmps191
 go_wp2
 all_goals
  go_ret
  exact ⟨Qah (by simp_all [Qbl];try omega),rfl⟩
theorem Qa8 (c:Int) (w:World):Calls Tryz.prog 190 #[.int .u8 c] w fun e w'=>e = .returned (.bool (lowerB c)) ∧ w = w':=by
 go_enter Tryz.func190,Tryz.ntmps190
 go_wp2
 all_goals
  go_ret
  exact ⟨Qah (by simp_all [lowerB];try omega),rfl⟩
theorem Qb2 (c:Int) (w:World):Calls Tryz.prog 189 #[.int .u8 c] w fun e w'=>e = .returned (.bool (Qby c)) ∧ w = w':=by
 go_enter Tryz.func189,Tryz.ntmps189
 go_wp2
 all_goals
  go_ret
  exact ⟨Qah (by simp_all [Qby];try omega),rfl⟩
theorem Qbe (c:Int) (w:World):Calls Tryz.prog 188 #[.int .u8 c] w fun e w'=>e = .returned (.bool (Qfu c)) ∧ w = w':=by
 go_enter Tryz.func188,Tryz.ntmps188
 go_wp2
 all_goals
  go_ret
  exact ⟨Qah (by simp_all [Qfu];try omega),rfl⟩
theorem Qa3 (c:Int) (w:World):Calls Tryz.prog 187 #[.int .u8 c] w fun e w'=>e = .returned (.bool (Qaq c)) ∧ w = w':=by
 go_enter Tryz.func187,Tryz.ntmps187
 go_wp2_with (first | (go_at_call 181;refine (Qdo _ _).mono ?_;rintro e w' ⟨rfl,rfl⟩) | (go_at_call 188;refine (Qbe _ _).mono ?_;rintro e w' ⟨rfl,rfl⟩))
 all_goals
  go_ret
  exact ⟨Qah (by simp_all [allowed_printed]),rfl⟩
theorem Qez (c:Int) (w:World):Calls Tryz.prog 197 #[.int .u8 c] w fun e w'=>e = .returned (.bool (Qgr c)) ∧ w = w':=by
 go_enter Tryz.func197,Tryz.ntmps197
 go_wp2_with (first | (go_at_call 191;refine (Qay _ _).mono ?_;rintro e w' ⟨rfl,rfl⟩) | (go_at_call 190;refine (Qa8 _ _).mono ?_;rintro e w' ⟨rfl,rfl⟩) | (go_at_call 189;refine (Qb2 _ _).mono ?_;rintro e w' ⟨rfl,rfl⟩))
 all_goals
  go_ret
  exact ⟨Qah (by simp_all [Qgr,Qat];try omega),rfl⟩
theorem ret_two {a b:Int} {c d:Bool} (h:a = b) (h':c = d):Ending.returned (.tuple #[.int .i64 a,.bool c]) = .returned (.tuple #[.int .i64 b,.bool d]):=by rw [h,h']
theorem bne_ten (n:Nat):(n != 10) = ((n:Int) != 10):=by rw [Bool.eq_iff_iff];simp;omega
theorem skip_any (s:ByteArray) (i:Nat) (w:World) (hi:i ≤ s.size) (hs:s.size ≤ maxLen) :
  Calls Tryz.prog 76 #[.string s,.int .i64 i] w fun e w'=>e = .returned (.tuple #[.int .i64 (Qak s i:Nat),.bool (Qc2 s i)]) ∧ w = w':=by
 unfold maxLen at hs
 have hst:=hQ (SkipAt.start s i hi)
 go_enter Tryz.func76,Tryz.ntmps76
 go_wp2
 go_step3
 go_wp2
 go_step3
 go_wp2
 go_loop [1,5] (fun a b=>∃ (k:Nat) (o:Bool),k ≤ s.size ∧ a = .int .i64 k ∧ b = .bool o ∧ SkipAt s i k o) (fun a _=>s.size - (intOf a).toNat)
 case atStart=>exact ⟨i,false,hi,rfl,rfl,hst.out⟩
 case round =>
  obtain ⟨k,o,hk,rfl,rfl,hrel⟩:=hrel
  have HR:=hQ hrel
  clear hrel hst
  by_cases hlt:k < s.size
  ·cases ha:Qaq s[k].toNat
   ·go_wp2_with (first | (go_at_call 111;refine (Qcq _ _).mono ?_;rintro e w' ⟨rfl,rfl⟩) | (go_at_call 112;refine (Qgv _ _).mono ?_;rintro e w' ⟨rfl,rfl⟩))
    try rw [Exit.noGoto_ret]
    go_ret2
    obtain ⟨h1,h2⟩:=HR.out.bad hlt ha
    exact ⟨ret_two (by rw [h1]) (by rw [h2]),rfl⟩
   ·cases o
    ·by_cases hc:s[k].toNat = 35
     ·have hc':((s[k].toNat:Int) == 35) = true:=by simp [hc]
      have HC:=hQ hc
      clear hc
      go_wp2_with (first | (go_at_call 111;refine (Qcq _ _).mono ?_;rintro e w' ⟨rfl,rfl⟩) | (go_at_call 112;refine (Qgv _ _).mono ?_;rintro e w' ⟨rfl,rfl⟩))
      go_round
      case rel=>exact ⟨k + 1,true,by omega,by go_num,rfl,HR.out.opens hlt HC.out⟩
      case measure=>simp [intOf];omega
     ·have hc':((s[k].toNat:Int) == 35) = false:=by simp;omega
      have HC:=hQ hc
      clear hc
      cases hw:Qd8 s[k].toNat
      ·go_wp2_with (first | (go_at_call 111;refine (Qcq _ _).mono ?_;rintro e w' ⟨rfl,rfl⟩) | (go_at_call 112;refine (Qgv _ _).mono ?_;rintro e w' ⟨rfl,rfl⟩))
       try rw [Exit.noGoto_ret]
       go_ret2
       obtain ⟨h1,h2⟩:=HR.out.other hlt hw HC.out
       exact ⟨ret_two (by rw [h1]) (by rw [h2]),rfl⟩
      ·go_wp2_with (first | (go_at_call 111;refine (Qcq _ _).mono ?_;rintro e w' ⟨rfl,rfl⟩) | (go_at_call 112;refine (Qgv _ _).mono ?_;rintro e w' ⟨rfl,rfl⟩))
       go_round
       case rel=>exact ⟨k + 1,false,by omega,by go_num,rfl,HR.out.white hlt hw⟩
       case measure=>simp [intOf];omega
    ·go_wp2_with (first | (go_at_call 111;refine (Qcq _ _).mono ?_;rintro e w' ⟨rfl,rfl⟩) | (go_at_call 112;refine (Qgv _ _).mono ?_;rintro e w' ⟨rfl,rfl⟩))
     go_round
     case rel=>exact ⟨k + 1,(s[k].toNat != 10),by omega,by go_num,by rw [bne_ten],HR.out.inside hlt ha⟩
     case measure=>simp [intOf];omega
  ·go_wp2
   try rw [Exit.noGoto_ret]
   go_ret2
   obtain ⟨h1,h2⟩:=HR.out.done hlt
   exact ⟨ret_two (by rw [h1]) (by rw [h2]),rfl⟩
end Go.Proofs.YtnnfdbmanamfdaaGreat
