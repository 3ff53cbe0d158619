/- Part 5 -/
import Derived.Test.YtjidpkcjpgdafaaGreatSf3
set_option maxRecDepth 100000
set_option maxHeartbeats 4000000
namespace Go.Proofs.YtjidpkcjpgdafaaGreat
open Go.RowKit
theorem Qmb {s:ByteArray} (h:s.size=0):suf s 0 = []:=Qjz s 0 (by omega)
theorem Qp3 {s:ByteArray} (h:0<s.size):suf s 0≠[]:=by
 intro e
 have:=Qbm s 0
 rw [e] at this
 simp at this
 omega
theorem Qe1 (s:ByteArray) (w:World) (hs:s.size<maxLen) :
  Calls Tryz.prog 186 #[.string s] w fun e w'=>e = .returned (.int .i64 (Qa6 (suf s 0)))∧w=w':=by
 have HS:=hQ hs
 by_cases h0:0<s.size
 ·have hne:s.toList.isEmpty=false:=by
   have:=Qp3 h0
   rw [Qgx] at this
   simpa using this
  have HN:=hQ (Qp3 h0)
  have HL:=hQ (Qbm s 0)
  unfold maxLen at hs
  by_cases he:(Qbu (suf s 0)).e=0
  ·have he':(((Qbu (suf s 0)).e:Nat):Int)=0:=by omega
   by_cases hn:(Qbu (suf s 0)).n=s.size
   ·have hn':(((Qbu (suf s 0)).n:Nat):Int)=(s.size:Int):=by omega
    have HC:=hQ (show Qa6 (suf s 0)=(Qbu (suf s 0)).kind from by unfold Qa6;rw [xN HN.out,xN (by rw [HL.out,he,hn];simp)])
    clear he hn
    go_enter Tryz.func186,Tryz.ntmps186
    go_wp2_with (go_at_call 123;refine (Qhr _ _ h0 HS.out).mono ?_;rintro e w' ⟨rfl,rfl⟩)
    go_ret
    exact ⟨Qbi (by rw [HC.out]),rfl⟩
   ·have hn':¬ (((Qbu (suf s 0)).n:Nat):Int)=(s.size:Int):=by omega
    have HC:=hQ (show Qa6 (suf s 0)=0 from by unfold Qa6;rw [xN HN.out,xO (.inr (by rw [HL.out];exact hn))])
    clear he hn
    go_enter Tryz.func186,Tryz.ntmps186
    go_wp2_with (go_at_call 123;refine (Qhr _ _ h0 HS.out).mono ?_;rintro e w' ⟨rfl,rfl⟩)
    go_ret
    exact ⟨Qbi (by rw [HC.out];rfl),rfl⟩
  ·have he':¬ (((Qbu (suf s 0)).e:Nat):Int)=0:=by omega
   have HC:=hQ (show Qa6 (suf s 0)=0 from by unfold Qa6;rw [xN HN.out,xO (.inl he)])
   clear he
   go_enter Tryz.func186,Tryz.ntmps186
   go_wp2_with (go_at_call 123;refine (Qhr _ _ h0 HS.out).mono ?_;rintro e w' ⟨rfl,rfl⟩)
   go_ret
   exact ⟨Qbi (by rw [HC.out];rfl),rfl⟩
 ·have he:s.toList.isEmpty=true:=by rw [←Qgx,Qmb (by omega)];rfl
  have HC:=hQ (show Qa6 (suf s 0)=0 from by rw [Qmb (by omega)];rfl)
  go_enter Tryz.func186,Tryz.ntmps186
  go_wp2
  go_ret
  exact ⟨Qbi (by rw [HC.out];rfl),rfl⟩
theorem Qmc (s:ByteArray) (w:World):Calls Tryz.prog 255 #[.string s] w fun e w'=>e = .returned (.bool (Qah (suf s 0)))∧w=w':=by
 go_enter Tryz.func255,Tryz.ntmps255
 go_wp2
 all_goals
  go_ret
  exact ⟨Qag (by rw [Qgx];simp_all [Qah,reservedWords]),rfl⟩
def Qrn (l:List UInt8):Nat:=if Qai (at' l 0) then Qac l else 0
theorem Qbf (s:ByteArray) (a:Nat) (h:a<s.size):at' (suf s a) 0=s[a].toNat:=Qg8 s a 0 (by omega)
theorem Qhx {s:ByteArray} {a:Nat} (h:a<s.size) (hl:Qai s[a].toNat=true):Qrn (suf s a)=Qac (suf s a):=by
 unfold Qrn
 rw [Qbf s a h,xO hl]
theorem Qp4 {s:ByteArray} {a:Nat} (h:a<s.size) (hl:Qai s[a].toNat=false):Qrn (suf s a)=0:=by
 unfold Qrn
 rw [Qbf s a h,xN (by simp [hl])]
theorem Qte {s:ByteArray} {a:Nat} (h:¬ a<s.size):Qrn (suf s a)=0:=by
 rw [Qjz s a (by omega)]
 rfl
theorem Qj7 (s:ByteArray) (a:Nat) (w:World) (ha:a≤maxLen) (hs:s.size≤maxLen) :
  Calls Tryz.prog 254 #[.string s,.int .i64 a] w fun e w'=>e = .returned (.int .i64 (Qrn (suf s a)))∧w=w':=by
 unfold maxLen at hs ha
 by_cases hlt:a<s.size
 ·have hge:decide (s.size≤a)=false:=by simp;omega
  have HR0:=hQ (RunAt.start Qgf s a (by omega))
  have HE:=hQ (show Qai s[a].toNat=(Qbc s[a].toNat || Qgc s[a].toNat) from rfl)
  cases hu:Qbc s[a].toNat
  ·cases hl:Qgc s[a].toNat
   ·have HW:=hQ (Qp4 hlt (by rw [HE.out,hu,hl];rfl))
    go_enter Tryz.func254,Tryz.ntmps254
    go_wp2_with (first | (go_at_call 249;refine (Qat _ _).mono ?_;rintro e w' ⟨rfl,rfl⟩) | (go_at_call 250;refine (Qaj _ _).mono ?_;rintro e w' ⟨rfl,rfl⟩) | (go_at_call 257;refine (Qdw _ _).mono ?_;rintro e w' ⟨rfl,rfl⟩))
    go_ret
    exact ⟨Qbi (by rw [HW.out];rfl),rfl⟩
   ·have HW:=hQ (Qhx hlt (by rw [HE.out,hu,hl];rfl))
    go_enter Tryz.func254,Tryz.ntmps254
    go_wp2_with (first | (go_at_call 249;refine (Qat _ _).mono ?_;rintro e w' ⟨rfl,rfl⟩) | (go_at_call 250;refine (Qaj _ _).mono ?_;rintro e w' ⟨rfl,rfl⟩) | (go_at_call 257;refine (Qdw _ _).mono ?_;rintro e w' ⟨rfl,rfl⟩))
    go_loop [5] (fun x=>∃ (k:Nat),k≤s.size∧x = .int .i64 k∧RunAt Qgf s a k) (fun x=>s.size-(intOf x).toNat)
    case atStart=>exact ⟨a,by omega,rfl,HR0.out⟩
    case round =>
     obtain ⟨k,hk,rfl,hrel⟩:=hrel
     have HR:=hQ hrel
     clear hrel HR0
     have hk0:=HR.out.1
     by_cases hlt':k<s.size
     ·cases hw:Qgf s[k].toNat
      ·go_wp2_with (first | (go_at_call 249;refine (Qat _ _).mono ?_;rintro e w' ⟨rfl,rfl⟩) | (go_at_call 250;refine (Qaj _ _).mono ?_;rintro e w' ⟨rfl,rfl⟩) | (go_at_call 257;refine (Qdw _ _).mono ?_;rintro e w' ⟨rfl,rfl⟩))
       go_ret
       exact ⟨Qbi (by have:=HR.out.stop hlt' hw;rw [HW.out];unfold Qac;omega),rfl⟩
      ·go_wp2_with (first | (go_at_call 249;refine (Qat _ _).mono ?_;rintro e w' ⟨rfl,rfl⟩) | (go_at_call 250;refine (Qaj _ _).mono ?_;rintro e w' ⟨rfl,rfl⟩) | (go_at_call 257;refine (Qdw _ _).mono ?_;rintro e w' ⟨rfl,rfl⟩))
       go_round
       case rel=>exact ⟨k+1,by omega,by go_num,HR.out.next hlt' hw⟩
       case measure=>simp [intOf];omega
     ·go_wp2
      go_ret
      exact ⟨Qbi (by have:=HR.out.done hlt';rw [HW.out];unfold Qac;omega),rfl⟩
  ·have HW:=hQ (Qhx hlt (by rw [HE.out,hu];rfl))
   cases hl:Qgc s[a].toNat
   all_goals
    go_enter Tryz.func254,Tryz.ntmps254
    go_wp2_with (first | (go_at_call 249;refine (Qat _ _).mono ?_;rintro e w' ⟨rfl,rfl⟩) | (go_at_call 250;refine (Qaj _ _).mono ?_;rintro e w' ⟨rfl,rfl⟩) | (go_at_call 257;refine (Qdw _ _).mono ?_;rintro e w' ⟨rfl,rfl⟩))
    go_loop [5] (fun x=>∃ (k:Nat),k≤s.size∧x = .int .i64 k∧RunAt Qgf s a k) (fun x=>s.size-(intOf x).toNat)
    case atStart=>exact ⟨a,by omega,rfl,HR0.out⟩
    case round =>
     obtain ⟨k,hk,rfl,hrel⟩:=hrel
     have HR:=hQ hrel
     clear hrel HR0
     have hk0:=HR.out.1
     by_cases hlt':k<s.size
     ·cases hw:Qgf s[k].toNat
      ·go_wp2_with (first | (go_at_call 249;refine (Qat _ _).mono ?_;rintro e w' ⟨rfl,rfl⟩) | (go_at_call 250;refine (Qaj _ _).mono ?_;rintro e w' ⟨rfl,rfl⟩) | (go_at_call 257;refine (Qdw _ _).mono ?_;rintro e w' ⟨rfl,rfl⟩))
       go_ret
       exact ⟨Qbi (by have:=HR.out.stop hlt' hw;rw [HW.out];unfold Qac;omega),rfl⟩
      ·go_wp2_with (first | (go_at_call 249;refine (Qat _ _).mono ?_;rintro e w' ⟨rfl,rfl⟩) | (go_at_call 250;refine (Qaj _ _).mono ?_;rintro e w' ⟨rfl,rfl⟩) | (go_at_call 257;refine (Qdw _ _).mono ?_;rintro e w' ⟨rfl,rfl⟩))
       go_round
       case rel=>exact ⟨k+1,by omega,by go_num,HR.out.next hlt' hw⟩
       case measure=>simp [intOf];omega
     ·go_wp2
      go_ret
      exact ⟨Qbi (by have:=HR.out.done hlt';rw [HW.out];unfold Qac;omega),rfl⟩
 ·have HW:=hQ (Qte hlt)
  go_enter Tryz.func254,Tryz.ntmps254
  go_wp2
  go_ret
  exact ⟨Qbi (by rw [HW.out];rfl),rfl⟩
end Go.Proofs.YtjidpkcjpgdafaaGreat
