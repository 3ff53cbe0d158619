/- Part 5 -/
import Derived.Test.YtfjpemdejoejbaaGreatTt3
set_option maxRecDepth 100000
set_option maxHeartbeats 4000000
namespace Go.Proofs.YtfjpemdejoejbaaGreat
open Go.RowKit
theorem Qm4 {s:ByteArray} (h:s.size=0):suf s 0 = []:=Qkd s 0 (by omega)
theorem Qrs {s:ByteArray} (h:0<s.size):suf s 0≠[]:=by
 intro e;have:=Qb0 s 0
 rw [e] at this;simp at this
 omega
theorem Qfi (s:ByteArray) (w:World) (hs:s.size<maxLen) :
  Calls Tryz.prog 139 #[.string s] w fun e w'=>e = .returned (.int .i64 (Qag (suf s 0)))∧w=w':=by
 have HS:=hQ hs
 by_cases h0:0<s.size
 ·have hne:s.toList.isEmpty=false:=by
   have:=Qrs h0
   rw [Qhd] at this
   simpa using this
  have HN:=hQ (Qrs h0);have HL:=hQ (Qb0 s 0);unfold maxLen at hs
  by_cases he:(Qb5 (suf s 0)).e=0
  ·have he':(((Qb5 (suf s 0)).e:Nat):Int)=0:=by omega
   by_cases hn:(Qb5 (suf s 0)).n=s.size
   ·have hn':(((Qb5 (suf s 0)).n:Nat):Int)=(s.size:Int):=by omega
    have HC:=hQ (show Qag (suf s 0)=(Qb5 (suf s 0)).kind from by unfold Qag;rw [xN HN.out,xN (by rw [HL.out,he,hn];simp)]);clear he hn
    go_enter Tryz.func139,Tryz.ntmps139
    go_wp2_with (go_at_call 82;refine (Qh9 _ _ h0 HS.out).mono ?_;rintro e w' ⟨rfl,rfl⟩)
    go_ret
    exact ⟨Qbx (by rw [HC.out]),rfl⟩
   ·have hn':¬ (((Qb5 (suf s 0)).n:Nat):Int)=(s.size:Int):=by omega
    have HC:=hQ (show Qag (suf s 0)=0 from by unfold Qag;rw [xN HN.out,xO (.inr (by rw [HL.out];exact hn))]);clear he hn
    go_enter Tryz.func139,Tryz.ntmps139
    go_wp2_with (go_at_call 82;refine (Qh9 _ _ h0 HS.out).mono ?_;rintro e w' ⟨rfl,rfl⟩)
    go_ret
    exact ⟨Qbx (by rw [HC.out];rfl),rfl⟩
  ·have he':¬ (((Qb5 (suf s 0)).e:Nat):Int)=0:=by omega
   have HC:=hQ (show Qag (suf s 0)=0 from by unfold Qag;rw [xN HN.out,xO (.inl he)]);clear he
   go_enter Tryz.func139,Tryz.ntmps139
   go_wp2_with (go_at_call 82;refine (Qh9 _ _ h0 HS.out).mono ?_;rintro e w' ⟨rfl,rfl⟩)
   go_ret
   exact ⟨Qbx (by rw [HC.out];rfl),rfl⟩
 ·have he:s.toList.isEmpty=true:=by rw [←Qhd,Qm4 (by omega)];rfl
  have HC:=hQ (show Qag (suf s 0)=0 from by rw [Qm4 (by omega)];rfl)
  go_enter Tryz.func139,Tryz.ntmps139
  go_wp2
  go_ret
  exact ⟨Qbx (by rw [HC.out];rfl),rfl⟩
theorem Qm5 (s:ByteArray) (w:World):Calls Tryz.prog 173 #[.string s] w fun e w'=>e = .returned (.bool (Qah (suf s 0)))∧w=w':=by
 go_enter Tryz.func173,Tryz.ntmps173
 go_wp2
 all_goals
  go_ret
  exact ⟨Qam (by rw [Qhd];simp_all [Qah,reservedWords]),rfl⟩
def Qtq (l:List UInt8):Nat:=if Qai (at' l 0) then Qac l else 0
theorem Qbr (s:ByteArray) (a:Nat) (h:a<s.size):at' (suf s a) 0=s[a].toNat:=Qhq s a 0 (by omega)
theorem Qif {s:ByteArray} {a:Nat} (h:a<s.size) (hl:Qai s[a].toNat=true):Qtq (suf s a)=Qac (suf s a):=by
 unfold Qtq;rw [Qbr s a h,xO hl]
theorem Qrt {s:ByteArray} {a:Nat} (h:a<s.size) (hl:Qai s[a].toNat=false):Qtq (suf s a)=0:=by
 unfold Qtq;rw [Qbr s a h,xN (by simp [hl])]
theorem Qvu {s:ByteArray} {a:Nat} (h:¬ a<s.size):Qtq (suf s a)=0:=by
 rw [Qkd s a (by omega)];rfl
theorem Qkl (s:ByteArray) (a:Nat) (w:World) (ha:a≤maxLen) (hs:s.size≤maxLen) :
  Calls Tryz.prog 172 #[.string s,.int .i64 a] w fun e w'=>e = .returned (.int .i64 (Qtq (suf s a)))∧w=w':=by
 unfold maxLen at hs ha
 by_cases hlt:a<s.size
 ·have hge:decide (s.size≤a)=false:=by simp;omega
  have HR0:=hQ (RunAt.start Qf0 s a (by omega));have HE:=hQ (show Qai s[a].toNat=(Qbf s[a].toNat || Qgv s[a].toNat) from rfl)
  cases hu:Qbf s[a].toNat
  ·cases hl:Qgv s[a].toNat
   ·have HW:=hQ (Qrt hlt (by rw [HE.out,hu,hl];rfl))
    go_enter Tryz.func172,Tryz.ntmps172
    go_wp2_with (first | (go_at_call 163;refine (Qa3 _ _).mono ?_;rintro e w' ⟨rfl,rfl⟩) | (go_at_call 164;refine (Qan _ _).mono ?_;rintro e w' ⟨rfl,rfl⟩) | (go_at_call 174;refine (Qd5 _ _).mono ?_;rintro e w' ⟨rfl,rfl⟩))
    go_ret
    exact ⟨Qbx (by rw [HW.out];rfl),rfl⟩
   ·have HW:=hQ (Qif hlt (by rw [HE.out,hu,hl];rfl))
    go_enter Tryz.func172,Tryz.ntmps172
    go_wp2_with (first | (go_at_call 163;refine (Qa3 _ _).mono ?_;rintro e w' ⟨rfl,rfl⟩) | (go_at_call 164;refine (Qan _ _).mono ?_;rintro e w' ⟨rfl,rfl⟩) | (go_at_call 174;refine (Qd5 _ _).mono ?_;rintro e w' ⟨rfl,rfl⟩))
    go_loop [5] (fun x=>∃ (k:Nat),k≤s.size∧x = .int .i64 k∧RunAt Qf0 s a k) (fun x=>s.size-(intOf x).toNat)
    case atStart=>exact ⟨a,by omega,rfl,HR0.out⟩
    case round =>
     obtain ⟨k,hk,rfl,hrel⟩:=hrel;have HR:=hQ hrel;clear hrel HR0;have hk0:=HR.out.1
     by_cases hlt':k<s.size
     ·cases hw:Qf0 s[k].toNat
      ·go_wp2_with (first | (go_at_call 163;refine (Qa3 _ _).mono ?_;rintro e w' ⟨rfl,rfl⟩) | (go_at_call 164;refine (Qan _ _).mono ?_;rintro e w' ⟨rfl,rfl⟩) | (go_at_call 174;refine (Qd5 _ _).mono ?_;rintro e w' ⟨rfl,rfl⟩))
       go_ret
       exact ⟨Qbx (by have:=HR.out.stop hlt' hw;rw [HW.out];unfold Qac;omega),rfl⟩
      ·go_wp2_with (first | (go_at_call 163;refine (Qa3 _ _).mono ?_;rintro e w' ⟨rfl,rfl⟩) | (go_at_call 164;refine (Qan _ _).mono ?_;rintro e w' ⟨rfl,rfl⟩) | (go_at_call 174;refine (Qd5 _ _).mono ?_;rintro e w' ⟨rfl,rfl⟩))
       go_round
       case rel=>exact ⟨k+1,by omega,by go_num,HR.out.next hlt' hw⟩
       case measure=>simp [intOf];omega
     ·go_wp2
      go_ret
      exact ⟨Qbx (by have:=HR.out.done hlt';rw [HW.out];unfold Qac;omega),rfl⟩
  ·have HW:=hQ (Qif hlt (by rw [HE.out,hu];rfl));cases hl:Qgv s[a].toNat
   all_goals
    go_enter Tryz.func172,Tryz.ntmps172
    go_wp2_with (first | (go_at_call 163;refine (Qa3 _ _).mono ?_;rintro e w' ⟨rfl,rfl⟩) | (go_at_call 164;refine (Qan _ _).mono ?_;rintro e w' ⟨rfl,rfl⟩) | (go_at_call 174;refine (Qd5 _ _).mono ?_;rintro e w' ⟨rfl,rfl⟩))
    go_loop [5] (fun x=>∃ (k:Nat),k≤s.size∧x = .int .i64 k∧RunAt Qf0 s a k) (fun x=>s.size-(intOf x).toNat)
    case atStart=>exact ⟨a,by omega,rfl,HR0.out⟩
    case round =>
     obtain ⟨k,hk,rfl,hrel⟩:=hrel;have HR:=hQ hrel;clear hrel HR0;have hk0:=HR.out.1
     by_cases hlt':k<s.size
     ·cases hw:Qf0 s[k].toNat
      ·go_wp2_with (first | (go_at_call 163;refine (Qa3 _ _).mono ?_;rintro e w' ⟨rfl,rfl⟩) | (go_at_call 164;refine (Qan _ _).mono ?_;rintro e w' ⟨rfl,rfl⟩) | (go_at_call 174;refine (Qd5 _ _).mono ?_;rintro e w' ⟨rfl,rfl⟩))
       go_ret
       exact ⟨Qbx (by have:=HR.out.stop hlt' hw;rw [HW.out];unfold Qac;omega),rfl⟩
      ·go_wp2_with (first | (go_at_call 163;refine (Qa3 _ _).mono ?_;rintro e w' ⟨rfl,rfl⟩) | (go_at_call 164;refine (Qan _ _).mono ?_;rintro e w' ⟨rfl,rfl⟩) | (go_at_call 174;refine (Qd5 _ _).mono ?_;rintro e w' ⟨rfl,rfl⟩))
       go_round
       case rel=>exact ⟨k+1,by omega,by go_num,HR.out.next hlt' hw⟩
       case measure=>simp [intOf];omega
     ·go_wp2
      go_ret
      exact ⟨Qbx (by have:=HR.out.done hlt';rw [HW.out];unfold Qac;omega),rfl⟩
 ·have HW:=hQ (Qvu hlt)
  go_enter Tryz.func172,Tryz.ntmps172
  go_wp2
  go_ret
  exact ⟨Qbx (by rw [HW.out];rfl),rfl⟩
end Go.Proofs.YtfjpemdejoejbaaGreat
