/- Part 3 -/
import Derived.Test.YtfjpemdejoejbaaGreatTt2
set_option maxRecDepth 100000
set_option maxHeartbeats 4000000
namespace Go.Proofs.YtfjpemdejoejbaaGreat
open Go.RowKit
theorem Qhd (s:ByteArray):suf s 0=s.toList:=by
 unfold suf;rw [ByteArray.toList_eq];rfl
theorem Qbj {t:Tk} {x y z:Int} (a b c:Nat) (h:t=⟨a,b,c⟩) (hx:x=a) (hy:y=b) (hz:z=c):Ending.returned (.tuple #[.int .i64 x,.int .i64 y,.int .i64 z]) = .returned (.tuple #[.int .i64 t.kind,.int .i64 t.n,.int .i64 t.e]):=by
 subst h hx hy hz;rfl
theorem Qbx {a b:Int} (h:a=b):Ending.returned (.int .i64 a) = .returned (.int .i64 b):=by rw [h]
theorem Qdq (s:ByteArray) (k:Nat) (h:k<s.size):at' (suf s 0) k=s[k].toNat:=by
 rw [Qhq s 0 k (by omega)];simp
theorem Qjr (s:ByteArray) (w:World):Calls Tryz.prog 152 #[.string s] w fun e w'=>e = .returned (.bool (Qah (suf s 0)))∧w=w':=by
 go_enter Tryz.func152,Tryz.ntmps152
 go_wp2
 all_goals
  go_ret
  exact ⟨Qam (by rw [Qhd];simp_all [Qah,reservedWords]),rfl⟩
theorem Qcs (s:ByteArray) (w:World) (hs:s.size≤maxLen) :
  Calls Tryz.prog 151 #[.string s] w fun e w'=>e = .returned (.int .i64 (Qac (suf s 0):Nat))∧w=w':=by
 unfold maxLen at hs;have hst:=hQ (RunAt.start Qf0 s 0 (xZ _))
 go_enter Tryz.func151,Tryz.ntmps151
 go_wp2
 go_loop [3] (fun a=>∃ (k:Nat),k≤s.size∧a = .int .i64 k∧RunAt Qf0 s 0 k) (fun a=>s.size-(intOf a).toNat)
 case atStart=>exact ⟨0,xZ _,rfl,hst.out⟩
 case round =>
  obtain ⟨k,hk,rfl,hrel⟩:=hrel;have HR:=hQ hrel;clear hrel hst
  by_cases hlt:k<s.size
  ·have HW:=hQ (show Qf0 s[k].toNat=(Qai s[k].toNat || Qbm s[k].toNat || (s[k].toNat:Int)==95) from rfl)
   cases hl:Qai s[k].toNat
   ·cases hd:Qbm s[k].toNat
    ·cases h95:((s[k].toNat:Int)==95)
     ·go_wp2_with (first | (go_at_call 116;refine (Qbk _ _).mono ?_;rintro e w' ⟨rfl,rfl⟩) | (go_at_call 118;refine (Qcx _ _).mono ?_;rintro e w' ⟨rfl,rfl⟩))
      go_ret
      have h1:=HR.out.stop hlt (by rw [HW.out,hl,hd,h95];rfl);exact ⟨Qbx (by unfold Qac;omega),rfl⟩
     ·go_wp2_with (first | (go_at_call 116;refine (Qbk _ _).mono ?_;rintro e w' ⟨rfl,rfl⟩) | (go_at_call 118;refine (Qcx _ _).mono ?_;rintro e w' ⟨rfl,rfl⟩))
      go_round
      case rel=>exact ⟨k+1,by omega,by go_num,HR.out.next hlt (by rw [HW.out,hl,hd,h95];rfl)⟩
      case measure=>simp [intOf];omega
    ·go_wp2_with (first | (go_at_call 116;refine (Qbk _ _).mono ?_;rintro e w' ⟨rfl,rfl⟩) | (go_at_call 118;refine (Qcx _ _).mono ?_;rintro e w' ⟨rfl,rfl⟩))
     go_round
     case rel=>exact ⟨k+1,by omega,by go_num,HR.out.next hlt (by rw [HW.out,hl,hd];rfl)⟩
     case measure=>simp [intOf];omega
   ·go_wp2_with (first | (go_at_call 116;refine (Qbk _ _).mono ?_;rintro e w' ⟨rfl,rfl⟩) | (go_at_call 118;refine (Qcx _ _).mono ?_;rintro e w' ⟨rfl,rfl⟩))
    go_round
    case rel=>exact ⟨k+1,by omega,by go_num,HR.out.next hlt (by rw [HW.out,hl];rfl)⟩
    case measure=>simp [intOf];omega
  ·go_wp2
   go_ret
   have h1:=HR.out.done hlt;exact ⟨Qbx (by unfold Qac;omega),rfl⟩
theorem Qf3 (s:ByteArray) (w:World) (h0:0<s.size) (hs:s.size≤maxLen) :
  Calls Tryz.prog 119 #[.string s] w fun e w'=>e = .returned (.tuple #[.int .i64 (Qhp (suf s 0)).kind,.int .i64 (Qhp (suf s 0)).n,.int .i64 (Qhp (suf s 0)).e])∧w=w':=by
 unfold maxLen at hs;have hst:=hQ (RunAt.start Qbm s 0 (xZ _));have H0:=hQ (Qdq s 0 h0)
 go_enter Tryz.func119,Tryz.ntmps119
 go_wp2
 go_loop [3] (fun a=>∃ (k:Nat),k≤s.size∧a = .int .i64 k∧RunAt Qbm s 0 k) (fun a=>s.size-(intOf a).toNat)
 case atStart=>exact ⟨0,xZ _,rfl,hst.out⟩
 case round =>
  obtain ⟨k,hk,rfl,hrel⟩:=hrel;have HR:=hQ hrel;clear hrel hst
  by_cases hgo:∃ h:k<s.size,Qbm s[k].toNat=true
  ·obtain ⟨hlt,hd⟩:=hgo;go_wp2_with (first | (go_at_call 116;refine (Qbk _ _).mono ?_;rintro e w' ⟨rfl,rfl⟩) | (go_at_call 118;refine (Qcx _ _).mono ?_;rintro e w' ⟨rfl,rfl⟩))
   go_round
   case rel=>exact ⟨k+1,by omega,by go_num,HR.out.next hlt hd⟩
   case measure=>simp [intOf];omega
  ·have HN:Hid (Qc1 (suf s 0)=k):=by
    unfold Qc1
    by_cases hlt:k<s.size
    ·have:=HR.out.stop hlt (by simpa using fun h=>hgo ⟨hlt,h⟩)
     exact hQ (by omega)
    ·have:=HR.out.done hlt
     exact hQ (by omega)
   by_cases h1:1<k
   ·by_cases h48:s[0].toNat=48
    ·have h48':((s[0].toNat:Int)==48)=true:=by simp [h48]
     have H48:=hQ h48;clear h48
     by_cases hlt:k<s.size
     all_goals
      first | (have hd:Qbm s[k].toNat=false:=by simpa using fun h=>hgo ⟨hlt,h⟩) | skip
      clear hgo;go_wp2_with (first | (go_at_call 116;refine (Qbk _ _).mono ?_;rintro e w' ⟨rfl,rfl⟩) | (go_at_call 118;refine (Qcx _ _).mono ?_;rintro e w' ⟨rfl,rfl⟩))
      go_ret3
      exact ⟨Qbj 0 0 2 (by unfold Qhp;rw [xO ⟨by rw [HN.out];exact h1,by rw [H0.out,H48.out]⟩]) rfl rfl rfl,rfl⟩
    ·have h48':((s[0].toNat:Int)==48)=false:=by simp;omega
     have H48:=hQ h48;clear h48;have HE:=hQ (show ¬ (1<Qc1 (suf s 0)∧at' (suf s 0) 0=48) from fun h=>H48.out (by rw [←H0.out];exact h.2))
     by_cases h15:15<k
     all_goals
      by_cases hlt:k<s.size
      all_goals
       first | (have hd:Qbm s[k].toNat=false:=by simpa using fun h=>hgo ⟨hlt,h⟩) | skip
       clear hgo;go_wp2_with (first | (go_at_call 116;refine (Qbk _ _).mono ?_;rintro e w' ⟨rfl,rfl⟩) | (go_at_call 118;refine (Qcx _ _).mono ?_;rintro e w' ⟨rfl,rfl⟩))
       go_ret3
       first
        | exact ⟨Qbj 0 0 3 (by unfold Qhp;rw [xN HE.out,HN.out,xO h15]) rfl rfl rfl,rfl⟩
        | exact ⟨Qbj 5 k 0 (by unfold Qhp;rw [xN HE.out,HN.out,xN h15]) rfl rfl rfl,rfl⟩
   ·have HE:=hQ (show ¬ (1<Qc1 (suf s 0)∧at' (suf s 0) 0=48) from fun h=>h1 (by rw [←HN.out];exact h.1))
    by_cases hlt:k<s.size
    all_goals
     first | (have hd:Qbm s[k].toNat=false:=by simpa using fun h=>hgo ⟨hlt,h⟩) | skip
     clear hgo;go_wp2_with (first | (go_at_call 116;refine (Qbk _ _).mono ?_;rintro e w' ⟨rfl,rfl⟩) | (go_at_call 118;refine (Qcx _ _).mono ?_;rintro e w' ⟨rfl,rfl⟩))
     go_ret3
     exact ⟨Qbj 5 k 0 (by unfold Qhp;rw [xN HE.out,HN.out,xN (by omega)]) rfl rfl rfl,rfl⟩
def QuotAt (s:ByteArray) (a k:Nat):Prop:=a+1≤k∧k≤s.size∧Qcf 1 (suf s (a+1))=Qcf (k-a) (suf s k)
theorem QuotAt.start (s:ByteArray) (a:Nat) (h:a<s.size):QuotAt s a (a+1):=⟨xA _,h,by rw [show a+1-a=1 from by omega]⟩
section
variable {s:ByteArray} {a k:Nat}
theorem QuotAt.done (h:QuotAt s a k) (hk:¬ k<s.size):Qcf 1 (suf s (a+1))=⟨0,0,2⟩:=by
 rw [h.2.2,Qkd s k (by omega),Qcf]
theorem QuotAt.close (h:QuotAt s a k) (hk:k<s.size) (hc:s[k].toNat=34):Qcf 1 (suf s (a+1))=⟨6,k-a+1,0⟩:=by
 rw [h.2.2,Qd0 s k hk,Qcf,xO hc]
theorem QuotAt.stop (h:QuotAt s a k) (hk:k<s.size) (h34:s[k].toNat≠34) (hc:s[k].toNat=92∨s[k].toNat=9∨s[k].toNat=10∨s[k].toNat=13):Qcf 1 (suf s (a+1))=⟨0,0,2⟩:=by
 rw [h.2.2,Qd0 s k hk,Qcf,xN h34,xO hc]
theorem QuotAt.bad (h:QuotAt s a k) (hk:k<s.size) (h34:s[k].toNat≠34) (hc:¬ (s[k].toNat=92∨s[k].toNat=9∨s[k].toNat=10∨s[k].toNat=13)) (ha:Qaq s[k].toNat=false):Qcf 1 (suf s (a+1))=⟨0,k-a,1⟩:=by
 rw [h.2.2,Qd0 s k hk,Qcf,xN h34,xN hc,xN (by simp [ha])]
theorem QuotAt.next (h:QuotAt s a k) (hk:k<s.size) (h34:s[k].toNat≠34) (hc:¬ (s[k].toNat=92∨s[k].toNat=9∨s[k].toNat=10∨s[k].toNat=13)) (ha:Qaq s[k].toNat=true):QuotAt s a (k+1):=by
 refine ⟨by have:=h.1;omega,by omega,?_⟩;rw [h.2.2,Qd0 s k hk,Qcf,xN h34,xN hc,xO ha,show k-a+1=k+1-a from by have:=h.1;omega]
end
theorem Qco {n m:Nat} (h:n=m):((n:Int)==(m:Int))=true:=by simp [h]
theorem Qc3 {n m:Nat} (h:n≠m):((n:Int)==(m:Int))=false:=by simp;omega
theorem Qf4 (s:ByteArray) (w:World) (h0:0<s.size) (hs:s.size≤maxLen) :
  Calls Tryz.prog 120 #[.string s] w fun e w'=>e = .returned (.tuple #[.int .i64 (Qcf 1 (suf s 1)).kind,.int .i64 (Qcf 1 (suf s 1)).n,.int .i64 (Qcf 1 (suf s 1)).e])∧w=w':=by
 unfold maxLen at hs;have hst:=hQ (QuotAt.start s 0 h0)
 go_enter Tryz.func120,Tryz.ntmps120
 go_wp2
 go_loop [5] (fun a=>∃ (k:Nat),1≤k∧k≤s.size∧a = .int .i64 k∧QuotAt s 0 k) (fun a=>s.size-(intOf a).toNat)
 case atStart=>exact ⟨1,xA _,h0,rfl,hst.out⟩
 case round =>
  obtain ⟨k,h1,hk,rfl,hrel⟩:=hrel;have HR:=hQ hrel;clear hrel hst
  by_cases hlt:k<s.size
  ·by_cases h34:s[k].toNat=34
   ·have g34:((s[k].toNat:Int)==34)=true:=Qco h34;have H34:=hQ h34;clear h34
    go_wp2
    go_ret3
    exact ⟨Qbj 6 (k+1) 0 (HR.out.close hlt H34.out) rfl (by omega) rfl,rfl⟩
   ·have g34:((s[k].toNat:Int)==34)=false:=Qc3 h34;have H34:=hQ h34;clear h34
    by_cases hstop:s[k].toNat=92∨s[k].toNat=9∨s[k].toNat=10∨s[k].toNat=13
    ·have HS:=hQ hstop
     rcases hstop with h | h | h | h
     ·have g1:((s[k].toNat:Int)==92)=true:=Qco h;clear h
      go_wp2
      go_ret3
      exact ⟨Qbj 0 0 2 (HR.out.stop hlt H34.out HS.out) rfl rfl rfl,rfl⟩
     ·have g1:((s[k].toNat:Int)==92)=false:=Qc3 (m:=92) (by omega);have g2:((s[k].toNat:Int)==9)=true:=Qco h;clear h
      go_wp2
      go_ret3
      exact ⟨Qbj 0 0 2 (HR.out.stop hlt H34.out HS.out) rfl rfl rfl,rfl⟩
     ·have g1:((s[k].toNat:Int)==92)=false:=Qc3 (m:=92) (by omega);have g2:((s[k].toNat:Int)==9)=false:=Qc3 (m:=9) (by omega);have g3:((s[k].toNat:Int)==10)=true:=Qco h;clear h
      go_wp2
      go_ret3
      exact ⟨Qbj 0 0 2 (HR.out.stop hlt H34.out HS.out) rfl rfl rfl,rfl⟩
     ·have g1:((s[k].toNat:Int)==92)=false:=Qc3 (m:=92) (by omega);have g2:((s[k].toNat:Int)==9)=false:=Qc3 (m:=9) (by omega);have g3:((s[k].toNat:Int)==10)=false:=Qc3 (m:=10) (by omega);have g4:((s[k].toNat:Int)==13)=true:=Qco h;clear h
      go_wp2
      go_ret3
      exact ⟨Qbj 0 0 2 (HR.out.stop hlt H34.out HS.out) rfl rfl rfl,rfl⟩
    ·have g1:((s[k].toNat:Int)==92)=false:=Qc3 (fun h=>hstop (.inl h));have g2:((s[k].toNat:Int)==9)=false:=Qc3 (fun h=>hstop (.inr (.inl h)));have g3:((s[k].toNat:Int)==10)=false:=Qc3 (fun h=>hstop (.inr (.inr (.inl h))));have g4:((s[k].toNat:Int)==13)=false:=Qc3 (fun h=>hstop (.inr (.inr (.inr h))));have HS:=hQ hstop;clear hstop
     cases ha:Qaq s[k].toNat
     ·go_wp2_with (go_at_call 114;refine (Qcb _ _).mono ?_;rintro e w' ⟨rfl,rfl⟩)
      go_ret3
      exact ⟨Qbj 0 k 1 (HR.out.bad hlt H34.out HS.out ha) rfl (by omega) rfl,rfl⟩
     ·go_wp2_with (go_at_call 114;refine (Qcb _ _).mono ?_;rintro e w' ⟨rfl,rfl⟩)
      go_round
      case rel=>exact ⟨k+1,by omega,by omega,by go_num,HR.out.next hlt H34.out HS.out ha⟩
      case measure=>simp [intOf];omega
  ·go_wp2
   go_ret3
   exact ⟨Qbj 0 0 2 (HR.out.done hlt) rfl rfl rfl,rfl⟩
theorem Qp5 (s:ByteArray) (h0:0<s.size) (h:s[0].toNat=61) (h1:1<s.size) (h2:s[1].toNat=61):Qde (suf s 0)=⟨8,2,0⟩:=by
 have:Qbh (suf s 0)=2:=by unfold Qbh;rw [Qdq s 0 h0,xO h,Qdq s 1 h1,xO h2]
 unfold Qde;rw [this,xN (by decide)]
theorem Qls (s:ByteArray) (h0:0<s.size) (h:s[0].toNat=61) (h1:∀ h:1<s.size,s[1].toNat≠61):Qde (suf s 0)=⟨8,1,0⟩:=by
 have:Qbh (suf s 0)=1:=by
  unfold Qbh;rw [Qdq s 0 h0,xO h]
  by_cases h2:1<s.size
  ·rw [Qdq s 1 h2,xN (h1 h2)]
  ·unfold at';rw [List.getD_eq_getElem?_getD,List.getElem?_eq_none (by rw [Qb0];omega)]
   decide
 unfold Qde;rw [this,xN (by decide)]
theorem Qp6 (s:ByteArray) (h0:0<s.size) (h:s[0].toNat≠61) (h1:Qd4 s[0].toNat=true):Qde (suf s 0)=⟨8,1,0⟩:=by
 have:Qbh (suf s 0)=1:=by unfold Qbh;rw [Qdq s 0 h0,xN h,xO h1]
 unfold Qde;rw [this,xN (by decide)]
theorem Qn9 (s:ByteArray) (h0:0<s.size) (h:s[0].toNat≠61) (h1:Qd4 s[0].toNat=false):Qde (suf s 0)=⟨0,0,2⟩:=by
 have:Qbh (suf s 0)=0:=by unfold Qbh;rw [Qdq s 0 h0,xN h,xN (by simp [h1])]
 unfold Qde;rw [this,xO rfl]
theorem Qh6 (s:ByteArray) (w:World) (h0:0<s.size) (_hs:s.size≤maxLen) :
  Calls Tryz.prog 121 #[.string s] w fun e w'=>e = .returned (.tuple #[.int .i64 (Qde (suf s 0)).kind,.int .i64 (Qde (suf s 0)).n,.int .i64 (Qde (suf s 0)).e])∧w=w':=by
 by_cases h61:s[0].toNat=61
 ·have g61:((s[0].toNat:Int)==61)=true:=Qco h61;have H61:=hQ h61;clear h61
  by_cases h1:1<s.size
  ·by_cases h2:s[1].toNat=61
   ·have g2:((s[1].toNat:Int)==61)=true:=Qco h2;have H2:=hQ h2;clear h2
    go_enter Tryz.func121,Tryz.ntmps121
    go_wp2
    go_ret3
    exact ⟨Qbj 8 2 0 (Qp5 s h0 H61.out h1 H2.out) rfl rfl rfl,rfl⟩
   ·have g2:((s[1].toNat:Int)==61)=false:=Qc3 h2;have H2:=hQ h2;clear h2
    go_enter Tryz.func121,Tryz.ntmps121
    go_wp2
    go_ret3
    exact ⟨Qbj 8 1 0 (Qls s h0 H61.out (fun _=>H2.out)) rfl rfl rfl,rfl⟩
  ·go_enter Tryz.func121,Tryz.ntmps121
   go_wp2
   go_ret3
   exact ⟨Qbj 8 1 0 (Qls s h0 H61.out (fun h=>absurd h h1)) rfl rfl rfl,rfl⟩
 ·have g61:((s[0].toNat:Int)==61)=false:=Qc3 h61;have H61:=hQ h61;clear h61
  cases ho:Qd4 s[0].toNat
  ·have H1:=hQ ho;simp only [Qd4,Bool.or_eq_false_iff,and_assoc] at ho;obtain ⟨a1,a2,a3,a4,a5,a6,a7,a8,a9,a10,a11⟩:=ho
   go_enter Tryz.func121,Tryz.ntmps121
   go_wp2
   go_ret3
   exact ⟨Qbj 0 0 2 (Qn9 s h0 H61.out H1.out) rfl rfl rfl,rfl⟩
  ·have H1:=hQ ho;clear ho
   go_enter Tryz.func121,Tryz.ntmps121
   go_wp2
   all_goals
    first
     | (go_ret3;exact ⟨Qbj 8 1 0 (Qp6 s h0 H61.out H1.out) rfl rfl rfl,rfl⟩)
     | (exfalso;have:=H1.out;simp_all [Qd4])
theorem Qki (s:ByteArray) (a:Nat) (w:World) (hs:s.size≤maxLen) :
  Calls Tryz.prog 151 #[.string (s.extract a s.size)] w fun e w'=>e = .returned (.int .i64 (Qac (suf s a):Nat))∧w=w':=by
 rw [←Qf1 s a];exact Qcs _ w (by rw [ByteArray.size_extract];omega)
theorem Qm0 (s:ByteArray) (a m:Nat) (w:World) :
  Calls Tryz.prog 152 #[.string ((s.extract a s.size).extract 0 m)] w fun e w'=>e = .returned (.bool (Qah ((suf s a).take m)))∧w=w':=by
 have h:=Qjr ((s.extract a s.size).extract 0 m) w;rw [Qdf,Qf1] at h;exact h
theorem Qbu (s:ByteArray) (a:Nat):Qac (suf s a)≤s.size-a:=by
 have:=Qke Qf0 (suf s a)
 rw [Qb0] at this;exact this
theorem Qp7 (s:ByteArray) (a k:Nat):at' (suf s a) k=at' (suf s 0) (a+k):=by
 unfold at' suf;rw [List.getD_eq_getElem?_getD,List.getD_eq_getElem?_getD,List.getElem?_drop,List.getElem?_drop,Nat.zero_add]
theorem Qro (s:ByteArray) (a:Nat) (h:0<(s.extract a s.size).size):(s.extract a s.size)[0].toNat=at' (suf s 0) a:=by
 rw [←Qdq _ 0 h,Qf1,Qp7];rfl
theorem Qh7 (s:ByteArray) (a:Nat) (h:a<s.size):0<(s.extract a s.size).size:=by
 rw [ByteArray.size_extract];omega
section
variable (s:ByteArray) (n:Nat)
theorem Qva (h:24<n∨24<Qac (suf s (n+1))):Qcn (suf s 0) n=⟨0,0,3⟩:=by
 unfold Qcn;rw [Qd2,Nat.zero_add,xO h]
theorem Qzi (h:¬ (24<n∨24<Qac (suf s (n+1)))) (hr:Qah ((suf s (n+1)).take (Qac (suf s (n+1))))=true):Qcn (suf s 0) n=⟨0,0,2⟩:=by
 unfold Qcn;rw [Qd2,Nat.zero_add,xN h,xO hr]
theorem Zb1 (h:¬ (24<n∨24<Qac (suf s (n+1)))) (hr:Qah ((suf s (n+1)).take (Qac (suf s (n+1))))=false) (h0:n+1<s.size)
  (hu:Qbf ((s.extract (n+1) s.size)[0]'(Qh7 s _ h0)).toNat=true):Qcn (suf s 0) n=⟨4,n+1+Qac (suf s (n+1)),0⟩:=by
 rw [Qro s (n+1) (Qh7 s _ h0)] at hu;unfold Qcn;rw [Qd2,Nat.zero_add,xN h,xN (by simp [hr]),xO hu]
theorem Qzj (h:¬ (24<n∨24<Qac (suf s (n+1)))) (hr:Qah ((suf s (n+1)).take (Qac (suf s (n+1))))=false) (h0:n+1<s.size)
  (hu:Qbf ((s.extract (n+1) s.size)[0]'(Qh7 s _ h0)).toNat=false):Qcn (suf s 0) n=⟨3,n+1+Qac (suf s (n+1)),0⟩:=by
 rw [Qro s (n+1) (Qh7 s _ h0)] at hu;unfold Qcn;rw [Qd2,Nat.zero_add,xN h,xN (by simp [hr]),xN (by simp [hu])]
end
theorem Qdk (s:ByteArray) (n:Nat) (w:World) (h0:n+1<s.size) (hs:s.size≤maxLen) :
  Calls Tryz.prog 153 #[.string s,.int .i64 n] w fun e w'=>e = .returned (.tuple #[.int .i64 (Qcn (suf s 0) n).kind,.int .i64 (Qcn (suf s 0) n).n,.int .i64 (Qcn (suf s 0) n).e])∧w=w':=by
 have HS:=hQ hs;have hm:=Qbu s (n+1);unfold maxLen at hs
 go_enter Tryz.func153,Tryz.ntmps153
 go_wp2_with (first | (go_at_call 151;refine (Qki _ _ _ HS.out).mono ?_;rintro e w' ⟨rfl,rfl⟩) | (go_at_call 152;refine (Qm0 _ _ _ _).mono ?_;rintro e w' ⟨rfl,rfl⟩) | (go_at_call 150;refine (Qe0 _ _).mono ?_;rintro e w' ⟨rfl,rfl⟩))
 all_goals
  go_ret3
  first
   | exact ⟨Qbj 0 0 3 (Qva s n (by omega)) rfl rfl rfl,rfl⟩
   | exact ⟨Qbj 0 0 2 (Qzi s n (by omega) (by assumption)) rfl rfl rfl,rfl⟩
   | exact ⟨Qbj 4 (n+1+Qac (suf s (n+1))) 0 (Zb1 s n (by omega) (by assumption) h0 (by assumption)) rfl (by omega) rfl,rfl⟩
   | exact ⟨Qbj 3 (n+1+Qac (suf s (n+1))) 0 (Qzj s n (by omega) (by assumption) h0 (by assumption)) rfl (by omega) rfl,rfl⟩
theorem Qdl (s:ByteArray) (m:Nat) (w:World) :
  Calls Tryz.prog 152 #[.string (s.extract 0 m)] w fun e w'=>e = .returned (.bool (Qah ((suf s 0).take m)))∧w=w':=by
 have h:=Qjr (s.extract 0 m) w;rw [Qdf,Nat.sub_zero] at h;exact h
theorem Qct {l:List UInt8} (h:Qcl l=false):Qcv l=Qc2 l:=by
 unfold Qcv;rw [xN (by simp [h])]
section
variable {l:List UInt8}
theorem Qc7 (h:24<Qac l):Qc2 l=⟨0,0,3⟩:=by
 unfold Qc2;rw [xO h]
theorem Qdt (h:¬ 24<Qac l) (hr:Qah (l.take (Qac l))=true):Qc2 l=⟨7,Qac l,0⟩:=by
 unfold Qc2;rw [xN h,xO hr]
theorem Qex (h:¬ 24<Qac l) (hr:Qah (l.take (Qac l))=false) (hu:Qbf (at' l 0)=true):Qc2 l=⟨2,Qac l,0⟩:=by
 unfold Qc2;rw [xN h,xN (by simp [hr]),xO hu]
theorem Qdu (h:¬ 24<Qac l) (hr:Qah (l.take (Qac l))=false) (hu:Qbf (at' l 0)=false):Qc2 l=⟨1,Qac l,0⟩:=by
 unfold Qc2;rw [xN h,xN (by simp [hr]),xN (by simp [hu])]
end
theorem Qh8 (s:ByteArray) (w:World) (h0:0<s.size) (hs:s.size<maxLen) :
  Calls Tryz.prog 117 #[.string s] w fun e w'=>e = .returned (.tuple #[.int .i64 (Qcv (suf s 0)).kind,.int .i64 (Qcv (suf s 0)).n,.int .i64 (Qcv (suf s 0)).e])∧w=w':=by
 have HS:=hQ (Nat.le_of_lt hs);have hm:=Qbu s 0;have H0:=hQ (Qdq s 0 h0);have HL:=hQ (Qb0 s 0);have HD:=hQ (show Qcl (suf s 0)=(Qbf (at' (suf s 0) 0) && !Qah ((suf s 0).take (Qac (suf s 0))) && decide (Qac (suf s 0)+1<(suf s 0).length) && at' (suf s 0) (Qac (suf s 0))==46 && Qai (at' (suf s 0) (Qac (suf s 0)+1))) from rfl);unfold maxLen at hs
 cases hu:Qbf s[0].toNat
 ·cases hr:Qah ((suf s 0).take (Qac (suf s 0)))
  all_goals
   have HP:=hQ (Qct (show Qcl (suf s 0)=false from by rw [HD.out,H0.out,hu];rfl))
   by_cases h24:24<Qac (suf s 0)
   all_goals
    go_enter Tryz.func117,Tryz.ntmps117
    go_wp2_with (first | (go_at_call 151;refine (Qcs _ _ HS.out).mono ?_;rintro e w' ⟨rfl,rfl⟩) | (go_at_call 152;refine (Qdl _ _ _).mono ?_;rintro e w' ⟨rfl,rfl⟩) | (go_at_call 150;refine (Qe0 _ _).mono ?_;rintro e w' ⟨rfl,rfl⟩) | (go_at_call 116;refine (Qbk _ _).mono ?_;rintro e w' ⟨rfl,rfl⟩) | (go_at_call 153;refine (Qdk _ _ _ hn HS.out).mono ?_;rintro e w' ⟨rfl,rfl⟩))
    go_ret3
    first
     | exact ⟨Qbj 0 0 3 (HP.out.trans (Qc7 h24)) rfl rfl rfl,rfl⟩
     | exact ⟨Qbj 7 (Qac (suf s 0)) 0 (HP.out.trans (Qdt h24 hr)) rfl rfl rfl,rfl⟩
     | exact ⟨Qbj 2 (Qac (suf s 0)) 0 (HP.out.trans (Qex h24 hr (by rw [H0.out];exact hu))) rfl rfl rfl,rfl⟩
     | exact ⟨Qbj 1 (Qac (suf s 0)) 0 (HP.out.trans (Qdu h24 hr (by rw [H0.out];exact hu))) rfl rfl rfl,rfl⟩

 ·cases hr:Qah ((suf s 0).take (Qac (suf s 0)))
  ·by_cases hn:Qac (suf s 0)+1<s.size
   ·have hn':((Qac (suf s 0):Nat):Int)+1<(s.size:Int):=by omega
    by_cases h46:s[Qac (suf s 0)].toNat=46
    ·have g46:((s[Qac (suf s 0)].toNat:Int)==46)=true:=Qco h46;have H46:=hQ h46;clear h46
     cases hl:Qai s[Qac (suf s 0)+1].toNat
     ·have HP:=hQ (Qct (show Qcl (suf s 0)=false from by rw [HD.out,Qdq s (Qac (suf s 0)+1) hn,hl];simp))
      by_cases h24:24<Qac (suf s 0)
      all_goals
       go_enter Tryz.func117,Tryz.ntmps117
       go_wp2_with (first | (go_at_call 151;refine (Qcs _ _ HS.out).mono ?_;rintro e w' ⟨rfl,rfl⟩) | (go_at_call 152;refine (Qdl _ _ _).mono ?_;rintro e w' ⟨rfl,rfl⟩) | (go_at_call 150;refine (Qe0 _ _).mono ?_;rintro e w' ⟨rfl,rfl⟩) | (go_at_call 116;refine (Qbk _ _).mono ?_;rintro e w' ⟨rfl,rfl⟩) | (go_at_call 153;refine (Qdk _ _ _ hn HS.out).mono ?_;rintro e w' ⟨rfl,rfl⟩))
       go_ret3
       first
        | exact ⟨Qbj 0 0 3 (HP.out.trans (Qc7 h24)) rfl rfl rfl,rfl⟩
        | exact ⟨Qbj 7 (Qac (suf s 0)) 0 (HP.out.trans (Qdt h24 hr)) rfl rfl rfl,rfl⟩
        | exact ⟨Qbj 2 (Qac (suf s 0)) 0 (HP.out.trans (Qex h24 hr (by rw [H0.out];exact hu))) rfl rfl rfl,rfl⟩
        | exact ⟨Qbj 1 (Qac (suf s 0)) 0 (HP.out.trans (Qdu h24 hr (by rw [H0.out];exact hu))) rfl rfl rfl,rfl⟩

     ·have HT:=hQ (show Qcv (suf s 0)=Qcn (suf s 0) (Qac (suf s 0)) from by
       unfold Qcv;rw [xO (by rw [HD.out,HL.out,H0.out,hu,hr,Qdq s _ (by omega),H46.out,Qdq s _ hn,hl];simpa using hn)])
      go_enter Tryz.func117,Tryz.ntmps117
      go_wp2_with (first | (go_at_call 151;refine (Qcs _ _ HS.out).mono ?_;rintro e w' ⟨rfl,rfl⟩) | (go_at_call 152;refine (Qdl _ _ _).mono ?_;rintro e w' ⟨rfl,rfl⟩) | (go_at_call 150;refine (Qe0 _ _).mono ?_;rintro e w' ⟨rfl,rfl⟩) | (go_at_call 116;refine (Qbk _ _).mono ?_;rintro e w' ⟨rfl,rfl⟩) | (go_at_call 153;refine (Qdk _ _ _ hn HS.out).mono ?_;rintro e w' ⟨rfl,rfl⟩))
      go_ret3
      exact ⟨Qbj _ _ _ HT.out rfl rfl rfl,rfl⟩
    ·have g46:((s[Qac (suf s 0)].toNat:Int)==46)=false:=Qc3 h46;have H47:=hQ h46;clear h46;have HP:=hQ (Qct (show Qcl (suf s 0)=false from by rw [HD.out,Qdq s (Qac (suf s 0)) (by omega),beq_eq_false_iff_ne.2 H47.out];simp))
     by_cases h24:24<Qac (suf s 0)
     all_goals
      go_enter Tryz.func117,Tryz.ntmps117
      go_wp2_with (first | (go_at_call 151;refine (Qcs _ _ HS.out).mono ?_;rintro e w' ⟨rfl,rfl⟩) | (go_at_call 152;refine (Qdl _ _ _).mono ?_;rintro e w' ⟨rfl,rfl⟩) | (go_at_call 150;refine (Qe0 _ _).mono ?_;rintro e w' ⟨rfl,rfl⟩) | (go_at_call 116;refine (Qbk _ _).mono ?_;rintro e w' ⟨rfl,rfl⟩) | (go_at_call 153;refine (Qdk _ _ _ hn HS.out).mono ?_;rintro e w' ⟨rfl,rfl⟩))
      go_ret3
      first
       | exact ⟨Qbj 0 0 3 (HP.out.trans (Qc7 h24)) rfl rfl rfl,rfl⟩
       | exact ⟨Qbj 7 (Qac (suf s 0)) 0 (HP.out.trans (Qdt h24 hr)) rfl rfl rfl,rfl⟩
       | exact ⟨Qbj 2 (Qac (suf s 0)) 0 (HP.out.trans (Qex h24 hr (by rw [H0.out];exact hu))) rfl rfl rfl,rfl⟩
       | exact ⟨Qbj 1 (Qac (suf s 0)) 0 (HP.out.trans (Qdu h24 hr (by rw [H0.out];exact hu))) rfl rfl rfl,rfl⟩

   ·have hn':¬ ((Qac (suf s 0):Nat):Int)+1<(s.size:Int):=by omega
    have HP:=hQ (Qct (show Qcl (suf s 0)=false from by rw [HD.out,HL.out,Nat.sub_zero,xR hn];simp))
    by_cases h24:24<Qac (suf s 0)
    all_goals
     go_enter Tryz.func117,Tryz.ntmps117
     go_wp2_with (first | (go_at_call 151;refine (Qcs _ _ HS.out).mono ?_;rintro e w' ⟨rfl,rfl⟩) | (go_at_call 152;refine (Qdl _ _ _).mono ?_;rintro e w' ⟨rfl,rfl⟩) | (go_at_call 150;refine (Qe0 _ _).mono ?_;rintro e w' ⟨rfl,rfl⟩) | (go_at_call 116;refine (Qbk _ _).mono ?_;rintro e w' ⟨rfl,rfl⟩) | (go_at_call 153;refine (Qdk _ _ _ hn HS.out).mono ?_;rintro e w' ⟨rfl,rfl⟩))
     go_ret3
     first
      | exact ⟨Qbj 0 0 3 (HP.out.trans (Qc7 h24)) rfl rfl rfl,rfl⟩
      | exact ⟨Qbj 7 (Qac (suf s 0)) 0 (HP.out.trans (Qdt h24 hr)) rfl rfl rfl,rfl⟩
      | exact ⟨Qbj 2 (Qac (suf s 0)) 0 (HP.out.trans (Qex h24 hr (by rw [H0.out];exact hu))) rfl rfl rfl,rfl⟩
      | exact ⟨Qbj 1 (Qac (suf s 0)) 0 (HP.out.trans (Qdu h24 hr (by rw [H0.out];exact hu))) rfl rfl rfl,rfl⟩

  ·have HP:=hQ (Qct (show Qcl (suf s 0)=false from by rw [HD.out,hr];simp))
   by_cases h24:24<Qac (suf s 0)
   all_goals
    go_enter Tryz.func117,Tryz.ntmps117
    go_wp2_with (first | (go_at_call 151;refine (Qcs _ _ HS.out).mono ?_;rintro e w' ⟨rfl,rfl⟩) | (go_at_call 152;refine (Qdl _ _ _).mono ?_;rintro e w' ⟨rfl,rfl⟩) | (go_at_call 150;refine (Qe0 _ _).mono ?_;rintro e w' ⟨rfl,rfl⟩) | (go_at_call 116;refine (Qbk _ _).mono ?_;rintro e w' ⟨rfl,rfl⟩) | (go_at_call 153;refine (Qdk _ _ _ hn HS.out).mono ?_;rintro e w' ⟨rfl,rfl⟩))
    go_ret3
    first
     | exact ⟨Qbj 0 0 3 (HP.out.trans (Qc7 h24)) rfl rfl rfl,rfl⟩
     | exact ⟨Qbj 7 (Qac (suf s 0)) 0 (HP.out.trans (Qdt h24 hr)) rfl rfl rfl,rfl⟩
     | exact ⟨Qbj 2 (Qac (suf s 0)) 0 (HP.out.trans (Qex h24 hr (by rw [H0.out];exact hu))) rfl rfl rfl,rfl⟩
     | exact ⟨Qbj 1 (Qac (suf s 0)) 0 (HP.out.trans (Qdu h24 hr (by rw [H0.out];exact hu))) rfl rfl rfl,rfl⟩

theorem Zb2 (s:ByteArray):(suf s 0).drop 1=suf s 1:=by rw [Qd2]
theorem Qh9 (s:ByteArray) (w:World) (h0:0<s.size) (hs:s.size<maxLen) :
  Calls Tryz.prog 82 #[.string s] w fun e w'=>e = .returned (.tuple #[.int .i64 (Qb5 (suf s 0)).kind,.int .i64 (Qb5 (suf s 0)).n,.int .i64 (Qb5 (suf s 0)).e])∧w=w':=by
 have HS:=hQ hs;have HT:=hQ (Nat.le_of_lt hs);have H0:=hQ (Qdq s 0 h0);unfold maxLen at hs
 cases ha:Qaq s[0].toNat
 ·go_enter Tryz.func82,Tryz.ntmps82
  go_wp2_with (first | (go_at_call 114;refine (Qcb _ _).mono ?_;rintro e w' ⟨rfl,rfl⟩) | (go_at_call 116;refine (Qbk _ _).mono ?_;rintro e w' ⟨rfl,rfl⟩) | (go_at_call 118;refine (Qcx _ _).mono ?_;rintro e w' ⟨rfl,rfl⟩) | (go_at_call 117;refine (Qh8 _ _ h0 HS.out).mono ?_;rintro e w' ⟨rfl,rfl⟩) | (go_at_call 119;refine (Qf3 _ _ h0 HT.out).mono ?_;rintro e w' ⟨rfl,rfl⟩) | (go_at_call 120;refine (Qf4 _ _ h0 HT.out).mono ?_;rintro e w' ⟨rfl,rfl⟩) | (go_at_call 121;refine (Qh6 _ _ h0 HT.out).mono ?_;rintro e w' ⟨rfl,rfl⟩))
  go_ret3
  exact ⟨Qbj 0 0 1 (by unfold Qb5;rw [H0.out,xO ha]) rfl rfl rfl,rfl⟩
 ·have HA:=hQ (show ¬ Qaq (at' (suf s 0) 0)=false from by rw [H0.out,ha];decide)
  cases hl:Qai s[0].toNat
  ·have HL:=hQ (show ¬ Qai (at' (suf s 0) 0)=true from by rw [H0.out,hl];decide)
   cases hd:Qbm s[0].toNat
   ·have HD:=hQ (show ¬ Qbm (at' (suf s 0) 0)=true from by rw [H0.out,hd];decide)
    by_cases h34:s[0].toNat=34
    ·have g34:((s[0].toNat:Int)==34)=true:=Qco h34;have H34:=hQ (show at' (suf s 0) 0=34 from by rw [H0.out,h34]);clear h34
     go_enter Tryz.func82,Tryz.ntmps82
     go_wp2_with (first | (go_at_call 114;refine (Qcb _ _).mono ?_;rintro e w' ⟨rfl,rfl⟩) | (go_at_call 116;refine (Qbk _ _).mono ?_;rintro e w' ⟨rfl,rfl⟩) | (go_at_call 118;refine (Qcx _ _).mono ?_;rintro e w' ⟨rfl,rfl⟩) | (go_at_call 117;refine (Qh8 _ _ h0 HS.out).mono ?_;rintro e w' ⟨rfl,rfl⟩) | (go_at_call 119;refine (Qf3 _ _ h0 HT.out).mono ?_;rintro e w' ⟨rfl,rfl⟩) | (go_at_call 120;refine (Qf4 _ _ h0 HT.out).mono ?_;rintro e w' ⟨rfl,rfl⟩) | (go_at_call 121;refine (Qh6 _ _ h0 HT.out).mono ?_;rintro e w' ⟨rfl,rfl⟩))
     go_ret3
     exact ⟨Qbj _ _ _ (show Qb5 (suf s 0)=Qcf 1 (suf s 1) from by unfold Qb5;rw [xN HA.out,xN HL.out,xN HD.out,xO H34.out,Zb2]) rfl rfl rfl,rfl⟩
    ·have g34:((s[0].toNat:Int)==34)=false:=Qc3 h34;have H34:=hQ (show ¬ at' (suf s 0) 0=34 from by rw [H0.out];exact h34);clear h34
     go_enter Tryz.func82,Tryz.ntmps82
     go_wp2_with (first | (go_at_call 114;refine (Qcb _ _).mono ?_;rintro e w' ⟨rfl,rfl⟩) | (go_at_call 116;refine (Qbk _ _).mono ?_;rintro e w' ⟨rfl,rfl⟩) | (go_at_call 118;refine (Qcx _ _).mono ?_;rintro e w' ⟨rfl,rfl⟩) | (go_at_call 117;refine (Qh8 _ _ h0 HS.out).mono ?_;rintro e w' ⟨rfl,rfl⟩) | (go_at_call 119;refine (Qf3 _ _ h0 HT.out).mono ?_;rintro e w' ⟨rfl,rfl⟩) | (go_at_call 120;refine (Qf4 _ _ h0 HT.out).mono ?_;rintro e w' ⟨rfl,rfl⟩) | (go_at_call 121;refine (Qh6 _ _ h0 HT.out).mono ?_;rintro e w' ⟨rfl,rfl⟩))
     go_ret3
     exact ⟨Qbj _ _ _ (show Qb5 (suf s 0)=Qde (suf s 0) from by unfold Qb5;rw [xN HA.out,xN HL.out,xN HD.out,xN H34.out]) rfl rfl rfl,rfl⟩
   ·have HD:=hQ (show Qbm (at' (suf s 0) 0)=true from by rw [H0.out,hd])
    go_enter Tryz.func82,Tryz.ntmps82
    go_wp2_with (first | (go_at_call 114;refine (Qcb _ _).mono ?_;rintro e w' ⟨rfl,rfl⟩) | (go_at_call 116;refine (Qbk _ _).mono ?_;rintro e w' ⟨rfl,rfl⟩) | (go_at_call 118;refine (Qcx _ _).mono ?_;rintro e w' ⟨rfl,rfl⟩) | (go_at_call 117;refine (Qh8 _ _ h0 HS.out).mono ?_;rintro e w' ⟨rfl,rfl⟩) | (go_at_call 119;refine (Qf3 _ _ h0 HT.out).mono ?_;rintro e w' ⟨rfl,rfl⟩) | (go_at_call 120;refine (Qf4 _ _ h0 HT.out).mono ?_;rintro e w' ⟨rfl,rfl⟩) | (go_at_call 121;refine (Qh6 _ _ h0 HT.out).mono ?_;rintro e w' ⟨rfl,rfl⟩))
    go_ret3
    exact ⟨Qbj _ _ _ (show Qb5 (suf s 0)=Qhp (suf s 0) from by unfold Qb5;rw [xN HA.out,xN HL.out,xO HD.out]) rfl rfl rfl,rfl⟩
  ·have HL:=hQ (show Qai (at' (suf s 0) 0)=true from by rw [H0.out,hl])
   go_enter Tryz.func82,Tryz.ntmps82
   go_wp2_with (first | (go_at_call 114;refine (Qcb _ _).mono ?_;rintro e w' ⟨rfl,rfl⟩) | (go_at_call 116;refine (Qbk _ _).mono ?_;rintro e w' ⟨rfl,rfl⟩) | (go_at_call 118;refine (Qcx _ _).mono ?_;rintro e w' ⟨rfl,rfl⟩) | (go_at_call 117;refine (Qh8 _ _ h0 HS.out).mono ?_;rintro e w' ⟨rfl,rfl⟩) | (go_at_call 119;refine (Qf3 _ _ h0 HT.out).mono ?_;rintro e w' ⟨rfl,rfl⟩) | (go_at_call 120;refine (Qf4 _ _ h0 HT.out).mono ?_;rintro e w' ⟨rfl,rfl⟩) | (go_at_call 121;refine (Qh6 _ _ h0 HT.out).mono ?_;rintro e w' ⟨rfl,rfl⟩))
   go_ret3
   exact ⟨Qbj _ _ _ (show Qb5 (suf s 0)=Qcv (suf s 0) from by unfold Qb5;rw [xN HA.out,xO HL.out]) rfl rfl rfl,rfl⟩
end Go.Proofs.YtfjpemdejoejbaaGreat
