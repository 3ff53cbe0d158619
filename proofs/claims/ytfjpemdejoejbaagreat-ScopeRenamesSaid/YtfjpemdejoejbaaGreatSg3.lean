/- Part 3 -/
import Derived.Test.YtfjpemdejoejbaaGreatSg2
set_option maxRecDepth 100000
set_option maxHeartbeats 4000000
namespace Go.Proofs.YtfjpemdejoejbaaGreat
open Go.RowKit
theorem Qdu (s:ByteArray):suf s 0=s.toList:=by
 unfold suf;rw [ByteArray.toList_eq];rfl
theorem Qbv {t:Tk} {x y z:Int} (a b c:Nat) (h:t=⟨a,b,c⟩) (hx:x=a) (hy:y=b) (hz:z=c):Ending.returned (.tuple #[.int .i64 x,.int .i64 y,.int .i64 z]) = .returned (.tuple #[.int .i64 t.kind,.int .i64 t.n,.int .i64 t.e]):=by
 subst h hx hy hz;rfl
theorem Qb5 {a b:Int} (h:a=b):Ending.returned (.int .i64 a) = .returned (.int .i64 b):=by rw [h]
theorem Qeo (s:ByteArray) (k:Nat) (h:k<s.size):at' (suf s 0) k=s[k].toNat:=by
 rw [Qi9 s 0 k (by omega)];simp
theorem Qk9 (s:ByteArray) (w:World):Calls Tryz.prog 152 #[.string s] w fun e w'=>e = .returned (.bool (Qar (suf s 0)))∧w=w':=by
 go_enter Tryz.func152,Tryz.ntmps152
 go_wp2
 all_goals
  go_ret
  exact ⟨Qah (by rw [Qdu];simp_all [Qar,reservedWords]),rfl⟩
theorem Qde (s:ByteArray) (w:World) (hs:s.size≤maxLen) :
  Calls Tryz.prog 151 #[.string s] w fun e w'=>e = .returned (.int .i64 (Qac (suf s 0):Nat))∧w=w':=by
 unfold maxLen at hs;have hst:=hQ (RunAt.start Qh9 s 0 (xZ _))
 go_enter Tryz.func151,Tryz.ntmps151
 go_wp2
 go_loop [3] (fun a=>∃ (k:Nat),k≤s.size∧a = .int .i64 k∧RunAt Qh9 s 0 k) (fun a=>s.size-(intOf a).toNat)
 case atStart=>exact ⟨0,xZ _,rfl,hst.out⟩
 case round =>
  obtain ⟨k,hk,rfl,hrel⟩:=hrel;have HR:=hQ hrel;clear hrel hst
  by_cases hlt:k<s.size
  ·have HW:=hQ (show Qh9 s[k].toNat=(Qav s[k].toNat || Qb2 s[k].toNat || (s[k].toNat:Int)==95) from rfl)
   cases hl:Qav s[k].toNat
   ·cases hd:Qb2 s[k].toNat
    ·cases h95:((s[k].toNat:Int)==95)
     ·go_wp2_with (first | (go_at_call 116;refine (Qbx _ _).mono ?_;rintro e w' ⟨rfl,rfl⟩) | (go_at_call 118;refine (Qdl _ _).mono ?_;rintro e w' ⟨rfl,rfl⟩))
      go_ret
      have h1:=HR.out.stop hlt (by rw [HW.out,hl,hd,h95];rfl);exact ⟨Qb5 (by unfold Qac;omega),rfl⟩
     ·go_wp2_with (first | (go_at_call 116;refine (Qbx _ _).mono ?_;rintro e w' ⟨rfl,rfl⟩) | (go_at_call 118;refine (Qdl _ _).mono ?_;rintro e w' ⟨rfl,rfl⟩))
      go_round
      case rel=>exact ⟨k+1,by omega,by go_num,HR.out.next hlt (by rw [HW.out,hl,hd,h95];rfl)⟩
      case measure=>simp [intOf];omega
    ·go_wp2_with (first | (go_at_call 116;refine (Qbx _ _).mono ?_;rintro e w' ⟨rfl,rfl⟩) | (go_at_call 118;refine (Qdl _ _).mono ?_;rintro e w' ⟨rfl,rfl⟩))
     go_round
     case rel=>exact ⟨k+1,by omega,by go_num,HR.out.next hlt (by rw [HW.out,hl,hd];rfl)⟩
     case measure=>simp [intOf];omega
   ·go_wp2_with (first | (go_at_call 116;refine (Qbx _ _).mono ?_;rintro e w' ⟨rfl,rfl⟩) | (go_at_call 118;refine (Qdl _ _).mono ?_;rintro e w' ⟨rfl,rfl⟩))
    go_round
    case rel=>exact ⟨k+1,by omega,by go_num,HR.out.next hlt (by rw [HW.out,hl];rfl)⟩
    case measure=>simp [intOf];omega
  ·go_wp2
   go_ret
   have h1:=HR.out.done hlt;exact ⟨Qb5 (by unfold Qac;omega),rfl⟩
theorem Qha (s:ByteArray) (w:World) (h0:0<s.size) (hs:s.size≤maxLen) :
  Calls Tryz.prog 119 #[.string s] w fun e w'=>e = .returned (.tuple #[.int .i64 (Qjg (suf s 0)).kind,.int .i64 (Qjg (suf s 0)).n,.int .i64 (Qjg (suf s 0)).e])∧w=w':=by
 unfold maxLen at hs;have hst:=hQ (RunAt.start Qb2 s 0 (xZ _));have H0:=hQ (Qeo s 0 h0)
 go_enter Tryz.func119,Tryz.ntmps119
 go_wp2
 go_loop [3] (fun a=>∃ (k:Nat),k≤s.size∧a = .int .i64 k∧RunAt Qb2 s 0 k) (fun a=>s.size-(intOf a).toNat)
 case atStart=>exact ⟨0,xZ _,rfl,hst.out⟩
 case round =>
  obtain ⟨k,hk,rfl,hrel⟩:=hrel;have HR:=hQ hrel;clear hrel hst
  by_cases hgo:∃ h:k<s.size,Qb2 s[k].toNat=true
  ·obtain ⟨hlt,hd⟩:=hgo;go_wp2_with (first | (go_at_call 116;refine (Qbx _ _).mono ?_;rintro e w' ⟨rfl,rfl⟩) | (go_at_call 118;refine (Qdl _ _).mono ?_;rintro e w' ⟨rfl,rfl⟩))
   go_round
   case rel=>exact ⟨k+1,by omega,by go_num,HR.out.next hlt hd⟩
   case measure=>simp [intOf];omega
  ·have HN:Hid (Qds (suf s 0)=k):=by
    unfold Qds
    by_cases hlt:k<s.size
    ·have:=HR.out.stop hlt (by simpa using fun h=>hgo ⟨hlt,h⟩)
     exact hQ (by omega)
    ·have:=HR.out.done hlt
     exact hQ (by omega)
   by_cases h1:1<k
   ·by_cases h48:s[0].toNat=48
    ·have h48':((s[0].toNat:Int)==48)=true:=by simp [h48]
     have H48:=hQ h48;clear h48
     by_cases hlt:k<s.size
     all_goals
      first | (have hd:Qb2 s[k].toNat=false:=by simpa using fun h=>hgo ⟨hlt,h⟩) | skip
      clear hgo;go_wp2_with (first | (go_at_call 116;refine (Qbx _ _).mono ?_;rintro e w' ⟨rfl,rfl⟩) | (go_at_call 118;refine (Qdl _ _).mono ?_;rintro e w' ⟨rfl,rfl⟩))
      go_ret3
      exact ⟨Qbv 0 0 2 (by unfold Qjg;rw [xO ⟨by rw [HN.out];exact h1,by rw [H0.out,H48.out]⟩]) rfl rfl rfl,rfl⟩
    ·have h48':((s[0].toNat:Int)==48)=false:=by simp;omega
     have H48:=hQ h48;clear h48;have HE:=hQ (show ¬ (1<Qds (suf s 0)∧at' (suf s 0) 0=48) from fun h=>H48.out (by rw [←H0.out];exact h.2))
     by_cases h15:15<k
     all_goals
      by_cases hlt:k<s.size
      all_goals
       first | (have hd:Qb2 s[k].toNat=false:=by simpa using fun h=>hgo ⟨hlt,h⟩) | skip
       clear hgo;go_wp2_with (first | (go_at_call 116;refine (Qbx _ _).mono ?_;rintro e w' ⟨rfl,rfl⟩) | (go_at_call 118;refine (Qdl _ _).mono ?_;rintro e w' ⟨rfl,rfl⟩))
       go_ret3
       first
        | exact ⟨Qbv 0 0 3 (by unfold Qjg;rw [xN HE.out,HN.out,xO h15]) rfl rfl rfl,rfl⟩
        | exact ⟨Qbv 5 k 0 (by unfold Qjg;rw [xN HE.out,HN.out,xN h15]) rfl rfl rfl,rfl⟩
   ·have HE:=hQ (show ¬ (1<Qds (suf s 0)∧at' (suf s 0) 0=48) from fun h=>h1 (by rw [←HN.out];exact h.1))
    by_cases hlt:k<s.size
    all_goals
     first | (have hd:Qb2 s[k].toNat=false:=by simpa using fun h=>hgo ⟨hlt,h⟩) | skip
     clear hgo;go_wp2_with (first | (go_at_call 116;refine (Qbx _ _).mono ?_;rintro e w' ⟨rfl,rfl⟩) | (go_at_call 118;refine (Qdl _ _).mono ?_;rintro e w' ⟨rfl,rfl⟩))
     go_ret3
     exact ⟨Qbv 5 k 0 (by unfold Qjg;rw [xN HE.out,HN.out,xN (by omega)]) rfl rfl rfl,rfl⟩
def QuotAt (s:ByteArray) (a k:Nat):Prop:=a+1≤k∧k≤s.size∧Qc4 1 (suf s (a+1))=Qc4 (k-a) (suf s k)
theorem QuotAt.start (s:ByteArray) (a:Nat) (h:a<s.size):QuotAt s a (a+1):=⟨xA _,h,by rw [show a+1-a=1 from by omega]⟩
section
variable {s:ByteArray} {a k:Nat}
theorem QuotAt.done (h:QuotAt s a k) (hk:¬ k<s.size):Qc4 1 (suf s (a+1))=⟨0,0,2⟩:=by
 rw [h.2.2,Qkm s k (by omega),Qc4]
theorem QuotAt.close (h:QuotAt s a k) (hk:k<s.size) (hc:s[k].toNat=34):Qc4 1 (suf s (a+1))=⟨6,k-a+1,0⟩:=by
 rw [h.2.2,Qc8 s k hk,Qc4,xO hc]
theorem QuotAt.stop (h:QuotAt s a k) (hk:k<s.size) (h34:s[k].toNat≠34) (hc:s[k].toNat=92∨s[k].toNat=9∨s[k].toNat=10∨s[k].toNat=13):Qc4 1 (suf s (a+1))=⟨0,0,2⟩:=by
 rw [h.2.2,Qc8 s k hk,Qc4,xN h34,xO hc]
theorem QuotAt.bad (h:QuotAt s a k) (hk:k<s.size) (h34:s[k].toNat≠34) (hc:¬ (s[k].toNat=92∨s[k].toNat=9∨s[k].toNat=10∨s[k].toNat=13)) (ha:Qap s[k].toNat=false):Qc4 1 (suf s (a+1))=⟨0,k-a,1⟩:=by
 rw [h.2.2,Qc8 s k hk,Qc4,xN h34,xN hc,xN (by simp [ha])]
theorem QuotAt.next (h:QuotAt s a k) (hk:k<s.size) (h34:s[k].toNat≠34) (hc:¬ (s[k].toNat=92∨s[k].toNat=9∨s[k].toNat=10∨s[k].toNat=13)) (ha:Qap s[k].toNat=true):QuotAt s a (k+1):=by
 refine ⟨by have:=h.1;omega,by omega,?_⟩;rw [h.2.2,Qc8 s k hk,Qc4,xN h34,xN hc,xO ha,show k-a+1=k+1-a from by have:=h.1;omega]
end
theorem Qc6 {n m:Nat} (h:n=m):((n:Int)==(m:Int))=true:=by simp [h]
theorem Qdt {n m:Nat} (h:n≠m):((n:Int)==(m:Int))=false:=by simp;omega
theorem Qhb (s:ByteArray) (w:World) (h0:0<s.size) (hs:s.size≤maxLen) :
  Calls Tryz.prog 120 #[.string s] w fun e w'=>e = .returned (.tuple #[.int .i64 (Qc4 1 (suf s 1)).kind,.int .i64 (Qc4 1 (suf s 1)).n,.int .i64 (Qc4 1 (suf s 1)).e])∧w=w':=by
 unfold maxLen at hs;have hst:=hQ (QuotAt.start s 0 h0)
 go_enter Tryz.func120,Tryz.ntmps120
 go_wp2
 go_loop [5] (fun a=>∃ (k:Nat),1≤k∧k≤s.size∧a = .int .i64 k∧QuotAt s 0 k) (fun a=>s.size-(intOf a).toNat)
 case atStart=>exact ⟨1,xA _,h0,rfl,hst.out⟩
 case round =>
  obtain ⟨k,h1,hk,rfl,hrel⟩:=hrel;have HR:=hQ hrel;clear hrel hst
  by_cases hlt:k<s.size
  ·by_cases h34:s[k].toNat=34
   ·have g34:((s[k].toNat:Int)==34)=true:=Qc6 h34;have H34:=hQ h34;clear h34
    go_wp2
    go_ret3
    exact ⟨Qbv 6 (k+1) 0 (HR.out.close hlt H34.out) rfl (by omega) rfl,rfl⟩
   ·have g34:((s[k].toNat:Int)==34)=false:=Qdt h34;have H34:=hQ h34;clear h34
    by_cases hstop:s[k].toNat=92∨s[k].toNat=9∨s[k].toNat=10∨s[k].toNat=13
    ·have HS:=hQ hstop
     rcases hstop with h | h | h | h
     ·have g1:((s[k].toNat:Int)==92)=true:=Qc6 h;clear h
      go_wp2
      go_ret3
      exact ⟨Qbv 0 0 2 (HR.out.stop hlt H34.out HS.out) rfl rfl rfl,rfl⟩
     ·have g1:((s[k].toNat:Int)==92)=false:=Qdt (m:=92) (by omega);have g2:((s[k].toNat:Int)==9)=true:=Qc6 h;clear h
      go_wp2
      go_ret3
      exact ⟨Qbv 0 0 2 (HR.out.stop hlt H34.out HS.out) rfl rfl rfl,rfl⟩
     ·have g1:((s[k].toNat:Int)==92)=false:=Qdt (m:=92) (by omega);have g2:((s[k].toNat:Int)==9)=false:=Qdt (m:=9) (by omega);have g3:((s[k].toNat:Int)==10)=true:=Qc6 h;clear h
      go_wp2
      go_ret3
      exact ⟨Qbv 0 0 2 (HR.out.stop hlt H34.out HS.out) rfl rfl rfl,rfl⟩
     ·have g1:((s[k].toNat:Int)==92)=false:=Qdt (m:=92) (by omega);have g2:((s[k].toNat:Int)==9)=false:=Qdt (m:=9) (by omega);have g3:((s[k].toNat:Int)==10)=false:=Qdt (m:=10) (by omega);have g4:((s[k].toNat:Int)==13)=true:=Qc6 h;clear h
      go_wp2
      go_ret3
      exact ⟨Qbv 0 0 2 (HR.out.stop hlt H34.out HS.out) rfl rfl rfl,rfl⟩
    ·have g1:((s[k].toNat:Int)==92)=false:=Qdt (fun h=>hstop (.inl h));have g2:((s[k].toNat:Int)==9)=false:=Qdt (fun h=>hstop (.inr (.inl h)));have g3:((s[k].toNat:Int)==10)=false:=Qdt (fun h=>hstop (.inr (.inr (.inl h))));have g4:((s[k].toNat:Int)==13)=false:=Qdt (fun h=>hstop (.inr (.inr (.inr h))));have HS:=hQ hstop;clear hstop
     cases ha:Qap s[k].toNat
     ·go_wp2_with (go_at_call 114;refine (Qcu _ _).mono ?_;rintro e w' ⟨rfl,rfl⟩)
      go_ret3
      exact ⟨Qbv 0 k 1 (HR.out.bad hlt H34.out HS.out ha) rfl (by omega) rfl,rfl⟩
     ·go_wp2_with (go_at_call 114;refine (Qcu _ _).mono ?_;rintro e w' ⟨rfl,rfl⟩)
      go_round
      case rel=>exact ⟨k+1,by omega,by omega,by go_num,HR.out.next hlt H34.out HS.out ha⟩
      case measure=>simp [intOf];omega
  ·go_wp2
   go_ret3
   exact ⟨Qbv 0 0 2 (HR.out.done hlt) rfl rfl rfl,rfl⟩
theorem Qr2 (s:ByteArray) (h0:0<s.size) (h:s[0].toNat=61) (h1:1<s.size) (h2:s[1].toNat=61):Qec (suf s 0)=⟨8,2,0⟩:=by
 have:Qbq (suf s 0)=2:=by unfold Qbq;rw [Qeo s 0 h0,xO h,Qeo s 1 h1,xO h2]
 unfold Qec;rw [this,xN (by decide)]
theorem Qnn (s:ByteArray) (h0:0<s.size) (h:s[0].toNat=61) (h1:∀ h:1<s.size,s[1].toNat≠61):Qec (suf s 0)=⟨8,1,0⟩:=by
 have:Qbq (suf s 0)=1:=by
  unfold Qbq;rw [Qeo s 0 h0,xO h]
  by_cases h2:1<s.size
  ·rw [Qeo s 1 h2,xN (h1 h2)]
  ·unfold at';rw [List.getD_eq_getElem?_getD,List.getElem?_eq_none (by rw [Qbw];omega)]
   decide
 unfold Qec;rw [this,xN (by decide)]
theorem Qr3 (s:ByteArray) (h0:0<s.size) (h:s[0].toNat≠61) (h1:Qe2 s[0].toNat=true):Qec (suf s 0)=⟨8,1,0⟩:=by
 have:Qbq (suf s 0)=1:=by unfold Qbq;rw [Qeo s 0 h0,xN h,xO h1]
 unfold Qec;rw [this,xN (by decide)]
theorem Qpy (s:ByteArray) (h0:0<s.size) (h:s[0].toNat≠61) (h1:Qe2 s[0].toNat=false):Qec (suf s 0)=⟨0,0,2⟩:=by
 have:Qbq (suf s 0)=0:=by unfold Qbq;rw [Qeo s 0 h0,xN h,xN (by simp [h1])]
 unfold Qec;rw [this,xO rfl]
theorem Qjt (s:ByteArray) (w:World) (h0:0<s.size) (_hs:s.size≤maxLen) :
  Calls Tryz.prog 121 #[.string s] w fun e w'=>e = .returned (.tuple #[.int .i64 (Qec (suf s 0)).kind,.int .i64 (Qec (suf s 0)).n,.int .i64 (Qec (suf s 0)).e])∧w=w':=by
 by_cases h61:s[0].toNat=61
 ·have g61:((s[0].toNat:Int)==61)=true:=Qc6 h61;have H61:=hQ h61;clear h61
  by_cases h1:1<s.size
  ·by_cases h2:s[1].toNat=61
   ·have g2:((s[1].toNat:Int)==61)=true:=Qc6 h2;have H2:=hQ h2;clear h2
    go_enter Tryz.func121,Tryz.ntmps121
    go_wp2
    go_ret3
    exact ⟨Qbv 8 2 0 (Qr2 s h0 H61.out h1 H2.out) rfl rfl rfl,rfl⟩
   ·have g2:((s[1].toNat:Int)==61)=false:=Qdt h2;have H2:=hQ h2;clear h2
    go_enter Tryz.func121,Tryz.ntmps121
    go_wp2
    go_ret3
    exact ⟨Qbv 8 1 0 (Qnn s h0 H61.out (fun _=>H2.out)) rfl rfl rfl,rfl⟩
  ·go_enter Tryz.func121,Tryz.ntmps121
   go_wp2
   go_ret3
   exact ⟨Qbv 8 1 0 (Qnn s h0 H61.out (fun h=>absurd h h1)) rfl rfl rfl,rfl⟩
 ·have g61:((s[0].toNat:Int)==61)=false:=Qdt h61;have H61:=hQ h61;clear h61
  cases ho:Qe2 s[0].toNat
  ·have H1:=hQ ho;simp only [Qe2,Bool.or_eq_false_iff,and_assoc] at ho;obtain ⟨a1,a2,a3,a4,a5,a6,a7,a8,a9,a10,a11⟩:=ho
   go_enter Tryz.func121,Tryz.ntmps121
   go_wp2
   go_ret3
   exact ⟨Qbv 0 0 2 (Qpy s h0 H61.out H1.out) rfl rfl rfl,rfl⟩
  ·have H1:=hQ ho;clear ho
   go_enter Tryz.func121,Tryz.ntmps121
   go_wp2
   all_goals
    first
     | (go_ret3;exact ⟨Qbv 8 1 0 (Qr3 s h0 H61.out H1.out) rfl rfl rfl,rfl⟩)
     | (exfalso;have:=H1.out;simp_all [Qe2])
theorem Ql9 (s:ByteArray) (a:Nat) (w:World) (hs:s.size≤maxLen) :
  Calls Tryz.prog 151 #[.string (s.extract a s.size)] w fun e w'=>e = .returned (.int .i64 (Qac (suf s a):Nat))∧w=w':=by
 rw [←Qiv s a];exact Qde _ w (by rw [ByteArray.size_extract];omega)
theorem Qot (s:ByteArray) (a m:Nat) (w:World) :
  Calls Tryz.prog 152 #[.string ((s.extract a s.size).extract 0 m)] w fun e w'=>e = .returned (.bool (Qar ((suf s a).take m)))∧w=w':=by
 have h:=Qk9 ((s.extract a s.size).extract 0 m) w;rw [Qea,Qiv] at h;exact h
theorem Qb8 (s:ByteArray) (a:Nat):Qac (suf s a)≤s.size-a:=by
 have:=Ql5 Qh9 (suf s a)
 rw [Qbw] at this;exact this
theorem Qr4 (s:ByteArray) (a k:Nat):at' (suf s a) k=at' (suf s 0) (a+k):=by
 unfold at' suf;rw [List.getD_eq_getElem?_getD,List.getD_eq_getElem?_getD,List.getElem?_drop,List.getElem?_drop,Nat.zero_add]
theorem Qty (s:ByteArray) (a:Nat) (h:0<(s.extract a s.size).size):(s.extract a s.size)[0].toNat=at' (suf s 0) a:=by
 rw [←Qeo _ 0 h,Qiv,Qr4];rfl
theorem Qju (s:ByteArray) (a:Nat) (h:a<s.size):0<(s.extract a s.size).size:=by
 rw [ByteArray.size_extract];omega
section
variable (s:ByteArray) (n:Nat)
theorem Qx7 (h:24<n∨24<Qac (suf s (n+1))):Qdd (suf s 0) n=⟨0,0,3⟩:=by
 unfold Qdd;rw [Qe7,Nat.zero_add,xO h]
theorem Zcl (h:¬ (24<n∨24<Qac (suf s (n+1)))) (hr:Qar ((suf s (n+1)).take (Qac (suf s (n+1))))=true):Qdd (suf s 0) n=⟨0,0,2⟩:=by
 unfold Qdd;rw [Qe7,Nat.zero_add,xN h,xO hr]
theorem Zff (h:¬ (24<n∨24<Qac (suf s (n+1)))) (hr:Qar ((suf s (n+1)).take (Qac (suf s (n+1))))=false) (h0:n+1<s.size)
  (hu:Qb1 ((s.extract (n+1) s.size)[0]'(Qju s _ h0)).toNat=true):Qdd (suf s 0) n=⟨4,n+1+Qac (suf s (n+1)),0⟩:=by
 rw [Qty s (n+1) (Qju s _ h0)] at hu;unfold Qdd;rw [Qe7,Nat.zero_add,xN h,xN (by simp [hr]),xO hu]
theorem Zcm (h:¬ (24<n∨24<Qac (suf s (n+1)))) (hr:Qar ((suf s (n+1)).take (Qac (suf s (n+1))))=false) (h0:n+1<s.size)
  (hu:Qb1 ((s.extract (n+1) s.size)[0]'(Qju s _ h0)).toNat=false):Qdd (suf s 0) n=⟨3,n+1+Qac (suf s (n+1)),0⟩:=by
 rw [Qty s (n+1) (Qju s _ h0)] at hu;unfold Qdd;rw [Qe7,Nat.zero_add,xN h,xN (by simp [hr]),xN (by simp [hu])]
end
theorem Qel (s:ByteArray) (n:Nat) (w:World) (h0:n+1<s.size) (hs:s.size≤maxLen) :
  Calls Tryz.prog 153 #[.string s,.int .i64 n] w fun e w'=>e = .returned (.tuple #[.int .i64 (Qdd (suf s 0) n).kind,.int .i64 (Qdd (suf s 0) n).n,.int .i64 (Qdd (suf s 0) n).e])∧w=w':=by
 have HS:=hQ hs;have hm:=Qb8 s (n+1);unfold maxLen at hs
 go_enter Tryz.func153,Tryz.ntmps153
 go_wp2_with (first | (go_at_call 151;refine (Ql9 _ _ _ HS.out).mono ?_;rintro e w' ⟨rfl,rfl⟩) | (go_at_call 152;refine (Qot _ _ _ _).mono ?_;rintro e w' ⟨rfl,rfl⟩) | (go_at_call 150;refine (Qfv _ _).mono ?_;rintro e w' ⟨rfl,rfl⟩))
 all_goals
  go_ret3
  first
   | exact ⟨Qbv 0 0 3 (Qx7 s n (by omega)) rfl rfl rfl,rfl⟩
   | exact ⟨Qbv 0 0 2 (Zcl s n (by omega) (by assumption)) rfl rfl rfl,rfl⟩
   | exact ⟨Qbv 4 (n+1+Qac (suf s (n+1))) 0 (Zff s n (by omega) (by assumption) h0 (by assumption)) rfl (by omega) rfl,rfl⟩
   | exact ⟨Qbv 3 (n+1+Qac (suf s (n+1))) 0 (Zcm s n (by omega) (by assumption) h0 (by assumption)) rfl (by omega) rfl,rfl⟩
theorem Qem (s:ByteArray) (m:Nat) (w:World) :
  Calls Tryz.prog 152 #[.string (s.extract 0 m)] w fun e w'=>e = .returned (.bool (Qar ((suf s 0).take m)))∧w=w':=by
 have h:=Qk9 (s.extract 0 m) w;rw [Qea,Nat.sub_zero] at h;exact h
theorem Qdf {l:List UInt8} (h:Qdk l=false):Qd2 l=Qd5 l:=by
 unfold Qd2;rw [xN (by simp [h])]
section
variable {l:List UInt8}
theorem Qdz (h:24<Qac l):Qd5 l=⟨0,0,3⟩:=by
 unfold Qd5;rw [xO h]
theorem Qer (h:¬ 24<Qac l) (hr:Qar (l.take (Qac l))=true):Qd5 l=⟨7,Qac l,0⟩:=by
 unfold Qd5;rw [xN h,xO hr]
theorem Qft (h:¬ 24<Qac l) (hr:Qar (l.take (Qac l))=false) (hu:Qb1 (at' l 0)=true):Qd5 l=⟨2,Qac l,0⟩:=by
 unfold Qd5;rw [xN h,xN (by simp [hr]),xO hu]
theorem Qes (h:¬ 24<Qac l) (hr:Qar (l.take (Qac l))=false) (hu:Qb1 (at' l 0)=false):Qd5 l=⟨1,Qac l,0⟩:=by
 unfold Qd5;rw [xN h,xN (by simp [hr]),xN (by simp [hu])]
end
theorem Qjv (s:ByteArray) (w:World) (h0:0<s.size) (hs:s.size<maxLen) :
  Calls Tryz.prog 117 #[.string s] w fun e w'=>e = .returned (.tuple #[.int .i64 (Qd2 (suf s 0)).kind,.int .i64 (Qd2 (suf s 0)).n,.int .i64 (Qd2 (suf s 0)).e])∧w=w':=by
 have HS:=hQ (Nat.le_of_lt hs);have hm:=Qb8 s 0;have H0:=hQ (Qeo s 0 h0);have HL:=hQ (Qbw s 0);have HD:=hQ (show Qdk (suf s 0)=(Qb1 (at' (suf s 0) 0) && !Qar ((suf s 0).take (Qac (suf s 0))) && decide (Qac (suf s 0)+1<(suf s 0).length) && at' (suf s 0) (Qac (suf s 0))==46 && Qav (at' (suf s 0) (Qac (suf s 0)+1))) from rfl);unfold maxLen at hs
 cases hu:Qb1 s[0].toNat
 ·cases hr:Qar ((suf s 0).take (Qac (suf s 0)))
  all_goals
   have HP:=hQ (Qdf (show Qdk (suf s 0)=false from by rw [HD.out,H0.out,hu];rfl))
   by_cases h24:24<Qac (suf s 0)
   all_goals
    go_enter Tryz.func117,Tryz.ntmps117
    go_wp2_with (first | (go_at_call 151;refine (Qde _ _ HS.out).mono ?_;rintro e w' ⟨rfl,rfl⟩) | (go_at_call 152;refine (Qem _ _ _).mono ?_;rintro e w' ⟨rfl,rfl⟩) | (go_at_call 150;refine (Qfv _ _).mono ?_;rintro e w' ⟨rfl,rfl⟩) | (go_at_call 116;refine (Qbx _ _).mono ?_;rintro e w' ⟨rfl,rfl⟩) | (go_at_call 153;refine (Qel _ _ _ hn HS.out).mono ?_;rintro e w' ⟨rfl,rfl⟩))
    go_ret3
    first
     | exact ⟨Qbv 0 0 3 (HP.out.trans (Qdz h24)) rfl rfl rfl,rfl⟩
     | exact ⟨Qbv 7 (Qac (suf s 0)) 0 (HP.out.trans (Qer h24 hr)) rfl rfl rfl,rfl⟩
     | exact ⟨Qbv 2 (Qac (suf s 0)) 0 (HP.out.trans (Qft h24 hr (by rw [H0.out];exact hu))) rfl rfl rfl,rfl⟩
     | exact ⟨Qbv 1 (Qac (suf s 0)) 0 (HP.out.trans (Qes h24 hr (by rw [H0.out];exact hu))) rfl rfl rfl,rfl⟩

 ·cases hr:Qar ((suf s 0).take (Qac (suf s 0)))
  ·by_cases hn:Qac (suf s 0)+1<s.size
   ·have hn':((Qac (suf s 0):Nat):Int)+1<(s.size:Int):=by omega
    by_cases h46:s[Qac (suf s 0)].toNat=46
    ·have g46:((s[Qac (suf s 0)].toNat:Int)==46)=true:=Qc6 h46;have H46:=hQ h46;clear h46
     cases hl:Qav s[Qac (suf s 0)+1].toNat
     ·have HP:=hQ (Qdf (show Qdk (suf s 0)=false from by rw [HD.out,Qeo s (Qac (suf s 0)+1) hn,hl];simp))
      by_cases h24:24<Qac (suf s 0)
      all_goals
       go_enter Tryz.func117,Tryz.ntmps117
       go_wp2_with (first | (go_at_call 151;refine (Qde _ _ HS.out).mono ?_;rintro e w' ⟨rfl,rfl⟩) | (go_at_call 152;refine (Qem _ _ _).mono ?_;rintro e w' ⟨rfl,rfl⟩) | (go_at_call 150;refine (Qfv _ _).mono ?_;rintro e w' ⟨rfl,rfl⟩) | (go_at_call 116;refine (Qbx _ _).mono ?_;rintro e w' ⟨rfl,rfl⟩) | (go_at_call 153;refine (Qel _ _ _ hn HS.out).mono ?_;rintro e w' ⟨rfl,rfl⟩))
       go_ret3
       first
        | exact ⟨Qbv 0 0 3 (HP.out.trans (Qdz h24)) rfl rfl rfl,rfl⟩
        | exact ⟨Qbv 7 (Qac (suf s 0)) 0 (HP.out.trans (Qer h24 hr)) rfl rfl rfl,rfl⟩
        | exact ⟨Qbv 2 (Qac (suf s 0)) 0 (HP.out.trans (Qft h24 hr (by rw [H0.out];exact hu))) rfl rfl rfl,rfl⟩
        | exact ⟨Qbv 1 (Qac (suf s 0)) 0 (HP.out.trans (Qes h24 hr (by rw [H0.out];exact hu))) rfl rfl rfl,rfl⟩

     ·have HT:=hQ (show Qd2 (suf s 0)=Qdd (suf s 0) (Qac (suf s 0)) from by
       unfold Qd2;rw [xO (by rw [HD.out,HL.out,H0.out,hu,hr,Qeo s _ (by omega),H46.out,Qeo s _ hn,hl];simpa using hn)])
      go_enter Tryz.func117,Tryz.ntmps117
      go_wp2_with (first | (go_at_call 151;refine (Qde _ _ HS.out).mono ?_;rintro e w' ⟨rfl,rfl⟩) | (go_at_call 152;refine (Qem _ _ _).mono ?_;rintro e w' ⟨rfl,rfl⟩) | (go_at_call 150;refine (Qfv _ _).mono ?_;rintro e w' ⟨rfl,rfl⟩) | (go_at_call 116;refine (Qbx _ _).mono ?_;rintro e w' ⟨rfl,rfl⟩) | (go_at_call 153;refine (Qel _ _ _ hn HS.out).mono ?_;rintro e w' ⟨rfl,rfl⟩))
      go_ret3
      exact ⟨Qbv _ _ _ HT.out rfl rfl rfl,rfl⟩
    ·have g46:((s[Qac (suf s 0)].toNat:Int)==46)=false:=Qdt h46;have H47:=hQ h46;clear h46;have HP:=hQ (Qdf (show Qdk (suf s 0)=false from by rw [HD.out,Qeo s (Qac (suf s 0)) (by omega),beq_eq_false_iff_ne.2 H47.out];simp))
     by_cases h24:24<Qac (suf s 0)
     all_goals
      go_enter Tryz.func117,Tryz.ntmps117
      go_wp2_with (first | (go_at_call 151;refine (Qde _ _ HS.out).mono ?_;rintro e w' ⟨rfl,rfl⟩) | (go_at_call 152;refine (Qem _ _ _).mono ?_;rintro e w' ⟨rfl,rfl⟩) | (go_at_call 150;refine (Qfv _ _).mono ?_;rintro e w' ⟨rfl,rfl⟩) | (go_at_call 116;refine (Qbx _ _).mono ?_;rintro e w' ⟨rfl,rfl⟩) | (go_at_call 153;refine (Qel _ _ _ hn HS.out).mono ?_;rintro e w' ⟨rfl,rfl⟩))
      go_ret3
      first
       | exact ⟨Qbv 0 0 3 (HP.out.trans (Qdz h24)) rfl rfl rfl,rfl⟩
       | exact ⟨Qbv 7 (Qac (suf s 0)) 0 (HP.out.trans (Qer h24 hr)) rfl rfl rfl,rfl⟩
       | exact ⟨Qbv 2 (Qac (suf s 0)) 0 (HP.out.trans (Qft h24 hr (by rw [H0.out];exact hu))) rfl rfl rfl,rfl⟩
       | exact ⟨Qbv 1 (Qac (suf s 0)) 0 (HP.out.trans (Qes h24 hr (by rw [H0.out];exact hu))) rfl rfl rfl,rfl⟩

   ·have hn':¬ ((Qac (suf s 0):Nat):Int)+1<(s.size:Int):=by omega
    have HP:=hQ (Qdf (show Qdk (suf s 0)=false from by rw [HD.out,HL.out,Nat.sub_zero,xR hn];simp))
    by_cases h24:24<Qac (suf s 0)
    all_goals
     go_enter Tryz.func117,Tryz.ntmps117
     go_wp2_with (first | (go_at_call 151;refine (Qde _ _ HS.out).mono ?_;rintro e w' ⟨rfl,rfl⟩) | (go_at_call 152;refine (Qem _ _ _).mono ?_;rintro e w' ⟨rfl,rfl⟩) | (go_at_call 150;refine (Qfv _ _).mono ?_;rintro e w' ⟨rfl,rfl⟩) | (go_at_call 116;refine (Qbx _ _).mono ?_;rintro e w' ⟨rfl,rfl⟩) | (go_at_call 153;refine (Qel _ _ _ hn HS.out).mono ?_;rintro e w' ⟨rfl,rfl⟩))
     go_ret3
     first
      | exact ⟨Qbv 0 0 3 (HP.out.trans (Qdz h24)) rfl rfl rfl,rfl⟩
      | exact ⟨Qbv 7 (Qac (suf s 0)) 0 (HP.out.trans (Qer h24 hr)) rfl rfl rfl,rfl⟩
      | exact ⟨Qbv 2 (Qac (suf s 0)) 0 (HP.out.trans (Qft h24 hr (by rw [H0.out];exact hu))) rfl rfl rfl,rfl⟩
      | exact ⟨Qbv 1 (Qac (suf s 0)) 0 (HP.out.trans (Qes h24 hr (by rw [H0.out];exact hu))) rfl rfl rfl,rfl⟩

  ·have HP:=hQ (Qdf (show Qdk (suf s 0)=false from by rw [HD.out,hr];simp))
   by_cases h24:24<Qac (suf s 0)
   all_goals
    go_enter Tryz.func117,Tryz.ntmps117
    go_wp2_with (first | (go_at_call 151;refine (Qde _ _ HS.out).mono ?_;rintro e w' ⟨rfl,rfl⟩) | (go_at_call 152;refine (Qem _ _ _).mono ?_;rintro e w' ⟨rfl,rfl⟩) | (go_at_call 150;refine (Qfv _ _).mono ?_;rintro e w' ⟨rfl,rfl⟩) | (go_at_call 116;refine (Qbx _ _).mono ?_;rintro e w' ⟨rfl,rfl⟩) | (go_at_call 153;refine (Qel _ _ _ hn HS.out).mono ?_;rintro e w' ⟨rfl,rfl⟩))
    go_ret3
    first
     | exact ⟨Qbv 0 0 3 (HP.out.trans (Qdz h24)) rfl rfl rfl,rfl⟩
     | exact ⟨Qbv 7 (Qac (suf s 0)) 0 (HP.out.trans (Qer h24 hr)) rfl rfl rfl,rfl⟩
     | exact ⟨Qbv 2 (Qac (suf s 0)) 0 (HP.out.trans (Qft h24 hr (by rw [H0.out];exact hu))) rfl rfl rfl,rfl⟩
     | exact ⟨Qbv 1 (Qac (suf s 0)) 0 (HP.out.trans (Qes h24 hr (by rw [H0.out];exact hu))) rfl rfl rfl,rfl⟩

theorem Zfg (s:ByteArray):(suf s 0).drop 1=suf s 1:=by rw [Qe7]
theorem Qjw (s:ByteArray) (w:World) (h0:0<s.size) (hs:s.size<maxLen) :
  Calls Tryz.prog 82 #[.string s] w fun e w'=>e = .returned (.tuple #[.int .i64 (Qbg (suf s 0)).kind,.int .i64 (Qbg (suf s 0)).n,.int .i64 (Qbg (suf s 0)).e])∧w=w':=by
 have HS:=hQ hs;have HT:=hQ (Nat.le_of_lt hs);have H0:=hQ (Qeo s 0 h0);unfold maxLen at hs
 cases ha:Qap s[0].toNat
 ·go_enter Tryz.func82,Tryz.ntmps82
  go_wp2_with (first | (go_at_call 114;refine (Qcu _ _).mono ?_;rintro e w' ⟨rfl,rfl⟩) | (go_at_call 116;refine (Qbx _ _).mono ?_;rintro e w' ⟨rfl,rfl⟩) | (go_at_call 118;refine (Qdl _ _).mono ?_;rintro e w' ⟨rfl,rfl⟩) | (go_at_call 117;refine (Qjv _ _ h0 HS.out).mono ?_;rintro e w' ⟨rfl,rfl⟩) | (go_at_call 119;refine (Qha _ _ h0 HT.out).mono ?_;rintro e w' ⟨rfl,rfl⟩) | (go_at_call 120;refine (Qhb _ _ h0 HT.out).mono ?_;rintro e w' ⟨rfl,rfl⟩) | (go_at_call 121;refine (Qjt _ _ h0 HT.out).mono ?_;rintro e w' ⟨rfl,rfl⟩))
  go_ret3
  exact ⟨Qbv 0 0 1 (by unfold Qbg;rw [H0.out,xO ha]) rfl rfl rfl,rfl⟩
 ·have HA:=hQ (show ¬ Qap (at' (suf s 0) 0)=false from by rw [H0.out,ha];decide)
  cases hl:Qav s[0].toNat
  ·have HL:=hQ (show ¬ Qav (at' (suf s 0) 0)=true from by rw [H0.out,hl];decide)
   cases hd:Qb2 s[0].toNat
   ·have HD:=hQ (show ¬ Qb2 (at' (suf s 0) 0)=true from by rw [H0.out,hd];decide)
    by_cases h34:s[0].toNat=34
    ·have g34:((s[0].toNat:Int)==34)=true:=Qc6 h34;have H34:=hQ (show at' (suf s 0) 0=34 from by rw [H0.out,h34]);clear h34
     go_enter Tryz.func82,Tryz.ntmps82
     go_wp2_with (first | (go_at_call 114;refine (Qcu _ _).mono ?_;rintro e w' ⟨rfl,rfl⟩) | (go_at_call 116;refine (Qbx _ _).mono ?_;rintro e w' ⟨rfl,rfl⟩) | (go_at_call 118;refine (Qdl _ _).mono ?_;rintro e w' ⟨rfl,rfl⟩) | (go_at_call 117;refine (Qjv _ _ h0 HS.out).mono ?_;rintro e w' ⟨rfl,rfl⟩) | (go_at_call 119;refine (Qha _ _ h0 HT.out).mono ?_;rintro e w' ⟨rfl,rfl⟩) | (go_at_call 120;refine (Qhb _ _ h0 HT.out).mono ?_;rintro e w' ⟨rfl,rfl⟩) | (go_at_call 121;refine (Qjt _ _ h0 HT.out).mono ?_;rintro e w' ⟨rfl,rfl⟩))
     go_ret3
     exact ⟨Qbv _ _ _ (show Qbg (suf s 0)=Qc4 1 (suf s 1) from by unfold Qbg;rw [xN HA.out,xN HL.out,xN HD.out,xO H34.out,Zfg]) rfl rfl rfl,rfl⟩
    ·have g34:((s[0].toNat:Int)==34)=false:=Qdt h34;have H34:=hQ (show ¬ at' (suf s 0) 0=34 from by rw [H0.out];exact h34);clear h34
     go_enter Tryz.func82,Tryz.ntmps82
     go_wp2_with (first | (go_at_call 114;refine (Qcu _ _).mono ?_;rintro e w' ⟨rfl,rfl⟩) | (go_at_call 116;refine (Qbx _ _).mono ?_;rintro e w' ⟨rfl,rfl⟩) | (go_at_call 118;refine (Qdl _ _).mono ?_;rintro e w' ⟨rfl,rfl⟩) | (go_at_call 117;refine (Qjv _ _ h0 HS.out).mono ?_;rintro e w' ⟨rfl,rfl⟩) | (go_at_call 119;refine (Qha _ _ h0 HT.out).mono ?_;rintro e w' ⟨rfl,rfl⟩) | (go_at_call 120;refine (Qhb _ _ h0 HT.out).mono ?_;rintro e w' ⟨rfl,rfl⟩) | (go_at_call 121;refine (Qjt _ _ h0 HT.out).mono ?_;rintro e w' ⟨rfl,rfl⟩))
     go_ret3
     exact ⟨Qbv _ _ _ (show Qbg (suf s 0)=Qec (suf s 0) from by unfold Qbg;rw [xN HA.out,xN HL.out,xN HD.out,xN H34.out]) rfl rfl rfl,rfl⟩
   ·have HD:=hQ (show Qb2 (at' (suf s 0) 0)=true from by rw [H0.out,hd])
    go_enter Tryz.func82,Tryz.ntmps82
    go_wp2_with (first | (go_at_call 114;refine (Qcu _ _).mono ?_;rintro e w' ⟨rfl,rfl⟩) | (go_at_call 116;refine (Qbx _ _).mono ?_;rintro e w' ⟨rfl,rfl⟩) | (go_at_call 118;refine (Qdl _ _).mono ?_;rintro e w' ⟨rfl,rfl⟩) | (go_at_call 117;refine (Qjv _ _ h0 HS.out).mono ?_;rintro e w' ⟨rfl,rfl⟩) | (go_at_call 119;refine (Qha _ _ h0 HT.out).mono ?_;rintro e w' ⟨rfl,rfl⟩) | (go_at_call 120;refine (Qhb _ _ h0 HT.out).mono ?_;rintro e w' ⟨rfl,rfl⟩) | (go_at_call 121;refine (Qjt _ _ h0 HT.out).mono ?_;rintro e w' ⟨rfl,rfl⟩))
    go_ret3
    exact ⟨Qbv _ _ _ (show Qbg (suf s 0)=Qjg (suf s 0) from by unfold Qbg;rw [xN HA.out,xN HL.out,xO HD.out]) rfl rfl rfl,rfl⟩
  ·have HL:=hQ (show Qav (at' (suf s 0) 0)=true from by rw [H0.out,hl])
   go_enter Tryz.func82,Tryz.ntmps82
   go_wp2_with (first | (go_at_call 114;refine (Qcu _ _).mono ?_;rintro e w' ⟨rfl,rfl⟩) | (go_at_call 116;refine (Qbx _ _).mono ?_;rintro e w' ⟨rfl,rfl⟩) | (go_at_call 118;refine (Qdl _ _).mono ?_;rintro e w' ⟨rfl,rfl⟩) | (go_at_call 117;refine (Qjv _ _ h0 HS.out).mono ?_;rintro e w' ⟨rfl,rfl⟩) | (go_at_call 119;refine (Qha _ _ h0 HT.out).mono ?_;rintro e w' ⟨rfl,rfl⟩) | (go_at_call 120;refine (Qhb _ _ h0 HT.out).mono ?_;rintro e w' ⟨rfl,rfl⟩) | (go_at_call 121;refine (Qjt _ _ h0 HT.out).mono ?_;rintro e w' ⟨rfl,rfl⟩))
   go_ret3
   exact ⟨Qbv _ _ _ (show Qbg (suf s 0)=Qd2 (suf s 0) from by unfold Qbg;rw [xN HA.out,xO HL.out]) rfl rfl rfl,rfl⟩
end Go.Proofs.YtfjpemdejoejbaaGreat
