/- Part 3 -/
import Derived.Test.YtjidpkcjpgdafaaGreatSe2
set_option maxRecDepth 100000
set_option maxHeartbeats 4000000
namespace Go.Proofs.YtjidpkcjpgdafaaGreat
open Go.RowKit
theorem Qdr (s:ByteArray):suf s 0=s.toList:=by
 unfold suf;rw [ByteArray.toList_eq];rfl
theorem Qbs {t:Tk} {x y z:Int} (a b c:Nat) (h:t=⟨a,b,c⟩) (hx:x=a) (hy:y=b) (hz:z=c):Ending.returned (.tuple #[.int .i64 x,.int .i64 y,.int .i64 z]) = .returned (.tuple #[.int .i64 t.kind,.int .i64 t.n,.int .i64 t.e]):=by
 subst h hx hy hz;rfl
theorem Qb2 {a b:Int} (h:a=b):Ending.returned (.int .i64 a) = .returned (.int .i64 b):=by rw [h]
theorem Qep (s:ByteArray) (k:Nat) (h:k<s.size):at' (suf s 0) k=s[k].toNat:=by
 rw [Qiz s 0 k (by omega)];simp
theorem Qk8 (s:ByteArray) (w:World):Calls Tryz.prog 219 #[.string s] w fun e w'=>e = .returned (.bool (Qar (suf s 0)))∧w=w':=by
 go_enter Tryz.func219,Tryz.ntmps219
 go_wp2
 all_goals
  go_ret
  exact ⟨Qah (by rw [Qdr];simp_all [Qar,reservedWords]),rfl⟩
theorem Qda (s:ByteArray) (w:World) (hs:s.size≤maxLen) :
  Calls Tryz.prog 218 #[.string s] w fun e w'=>e = .returned (.int .i64 (Qac (suf s 0):Nat))∧w=w':=by
 unfold maxLen at hs;have hst:=hQ (RunAt.start Qh4 s 0 (xZ _))
 go_enter Tryz.func218,Tryz.ntmps218
 go_wp2
 go_loop [3] (fun a=>∃ (k:Nat),k≤s.size∧a = .int .i64 k∧RunAt Qh4 s 0 k) (fun a=>s.size-(intOf a).toNat)
 case atStart=>exact ⟨0,xZ _,rfl,hst.out⟩
 case round =>
  obtain ⟨k,hk,rfl,hrel⟩:=hrel;have HR:=hQ hrel;clear hrel hst
  by_cases hlt:k<s.size
  ·have HW:=hQ (show Qh4 s[k].toNat=(Qau s[k].toNat || Qb0 s[k].toNat || (s[k].toNat:Int)==95) from rfl)
   cases hl:Qau s[k].toNat
   ·cases hd:Qb0 s[k].toNat
    ·cases h95:((s[k].toNat:Int)==95)
     ·go_wp2_with (first | (go_at_call 166;refine (Qbu _ _).mono ?_;rintro e w' ⟨rfl,rfl⟩) | (go_at_call 168;refine (Qdk _ _).mono ?_;rintro e w' ⟨rfl,rfl⟩))
      go_ret
      have h1:=HR.out.stop hlt (by rw [HW.out,hl,hd,h95];rfl);exact ⟨Qb2 (by unfold Qac;omega),rfl⟩
     ·go_wp2_with (first | (go_at_call 166;refine (Qbu _ _).mono ?_;rintro e w' ⟨rfl,rfl⟩) | (go_at_call 168;refine (Qdk _ _).mono ?_;rintro e w' ⟨rfl,rfl⟩))
      go_round
      case rel=>exact ⟨k+1,by omega,by go_num,HR.out.next hlt (by rw [HW.out,hl,hd,h95];rfl)⟩
      case measure=>simp [intOf];omega
    ·go_wp2_with (first | (go_at_call 166;refine (Qbu _ _).mono ?_;rintro e w' ⟨rfl,rfl⟩) | (go_at_call 168;refine (Qdk _ _).mono ?_;rintro e w' ⟨rfl,rfl⟩))
     go_round
     case rel=>exact ⟨k+1,by omega,by go_num,HR.out.next hlt (by rw [HW.out,hl,hd];rfl)⟩
     case measure=>simp [intOf];omega
   ·go_wp2_with (first | (go_at_call 166;refine (Qbu _ _).mono ?_;rintro e w' ⟨rfl,rfl⟩) | (go_at_call 168;refine (Qdk _ _).mono ?_;rintro e w' ⟨rfl,rfl⟩))
    go_round
    case rel=>exact ⟨k+1,by omega,by go_num,HR.out.next hlt (by rw [HW.out,hl];rfl)⟩
    case measure=>simp [intOf];omega
  ·go_wp2
   go_ret
   have h1:=HR.out.done hlt;exact ⟨Qb2 (by unfold Qac;omega),rfl⟩
theorem Qha (s:ByteArray) (w:World) (h0:0<s.size) (hs:s.size≤maxLen) :
  Calls Tryz.prog 169 #[.string s] w fun e w'=>e = .returned (.tuple #[.int .i64 (Qi6 (suf s 0)).kind,.int .i64 (Qi6 (suf s 0)).n,.int .i64 (Qi6 (suf s 0)).e])∧w=w':=by
 unfold maxLen at hs;have hst:=hQ (RunAt.start Qb0 s 0 (xZ _));have H0:=hQ (Qep s 0 h0)
 go_enter Tryz.func169,Tryz.ntmps169
 go_wp2
 go_loop [3] (fun a=>∃ (k:Nat),k≤s.size∧a = .int .i64 k∧RunAt Qb0 s 0 k) (fun a=>s.size-(intOf a).toNat)
 case atStart=>exact ⟨0,xZ _,rfl,hst.out⟩
 case round =>
  obtain ⟨k,hk,rfl,hrel⟩:=hrel;have HR:=hQ hrel;clear hrel hst
  by_cases hgo:∃ h:k<s.size,Qb0 s[k].toNat=true
  ·obtain ⟨hlt,hd⟩:=hgo;go_wp2_with (first | (go_at_call 166;refine (Qbu _ _).mono ?_;rintro e w' ⟨rfl,rfl⟩) | (go_at_call 168;refine (Qdk _ _).mono ?_;rintro e w' ⟨rfl,rfl⟩))
   go_round
   case rel=>exact ⟨k+1,by omega,by go_num,HR.out.next hlt hd⟩
   case measure=>simp [intOf];omega
  ·have HN:Hid (Qdp (suf s 0)=k):=by
    unfold Qdp
    by_cases hlt:k<s.size
    ·have:=HR.out.stop hlt (by simpa using fun h=>hgo ⟨hlt,h⟩)
     exact hQ (by omega)
    ·have:=HR.out.done hlt
     exact hQ (by omega)
   by_cases h1:1<k
   ·by_cases h48:s[0].toNat=48
    ·have h48':((s[0].toNat:Int)==48)=true:=by simp [h48]
     have H48:=hQ h48;clear h48
     by_cases hlt:k<s.size
     all_goals
      first | (have hd:Qb0 s[k].toNat=false:=by simpa using fun h=>hgo ⟨hlt,h⟩) | skip
      clear hgo;go_wp2_with (first | (go_at_call 166;refine (Qbu _ _).mono ?_;rintro e w' ⟨rfl,rfl⟩) | (go_at_call 168;refine (Qdk _ _).mono ?_;rintro e w' ⟨rfl,rfl⟩))
      go_ret3
      exact ⟨Qbs 0 0 2 (by unfold Qi6;rw [xO ⟨by rw [HN.out];exact h1,by rw [H0.out,H48.out]⟩]) rfl rfl rfl,rfl⟩
    ·have h48':((s[0].toNat:Int)==48)=false:=by simp;omega
     have H48:=hQ h48;clear h48;have HE:=hQ (show ¬ (1<Qdp (suf s 0)∧at' (suf s 0) 0=48) from fun h=>H48.out (by rw [←H0.out];exact h.2))
     by_cases h15:15<k
     all_goals
      by_cases hlt:k<s.size
      all_goals
       first | (have hd:Qb0 s[k].toNat=false:=by simpa using fun h=>hgo ⟨hlt,h⟩) | skip
       clear hgo;go_wp2_with (first | (go_at_call 166;refine (Qbu _ _).mono ?_;rintro e w' ⟨rfl,rfl⟩) | (go_at_call 168;refine (Qdk _ _).mono ?_;rintro e w' ⟨rfl,rfl⟩))
       go_ret3
       first
        | exact ⟨Qbs 0 0 3 (by unfold Qi6;rw [xN HE.out,HN.out,xO h15]) rfl rfl rfl,rfl⟩
        | exact ⟨Qbs 5 k 0 (by unfold Qi6;rw [xN HE.out,HN.out,xN h15]) rfl rfl rfl,rfl⟩
   ·have HE:=hQ (show ¬ (1<Qdp (suf s 0)∧at' (suf s 0) 0=48) from fun h=>h1 (by rw [←HN.out];exact h.1))
    by_cases hlt:k<s.size
    all_goals
     first | (have hd:Qb0 s[k].toNat=false:=by simpa using fun h=>hgo ⟨hlt,h⟩) | skip
     clear hgo;go_wp2_with (first | (go_at_call 166;refine (Qbu _ _).mono ?_;rintro e w' ⟨rfl,rfl⟩) | (go_at_call 168;refine (Qdk _ _).mono ?_;rintro e w' ⟨rfl,rfl⟩))
     go_ret3
     exact ⟨Qbs 5 k 0 (by unfold Qi6;rw [xN HE.out,HN.out,xN (by omega)]) rfl rfl rfl,rfl⟩
def QuotAt (s:ByteArray) (a k:Nat):Prop:=a+1≤k∧k≤s.size∧Qc1 1 (suf s (a+1))=Qc1 (k-a) (suf s k)
theorem QuotAt.start (s:ByteArray) (a:Nat) (h:a<s.size):QuotAt s a (a+1):=⟨xA _,h,by rw [show a+1-a=1 from by omega]⟩
section
variable {s:ByteArray} {a k:Nat}
theorem QuotAt.done (h:QuotAt s a k) (hk:¬ k<s.size):Qc1 1 (suf s (a+1))=⟨0,0,2⟩:=by
 rw [h.2.2,Qkg s k (by omega),Qc1]
theorem QuotAt.close (h:QuotAt s a k) (hk:k<s.size) (hc:s[k].toNat=34):Qc1 1 (suf s (a+1))=⟨6,k-a+1,0⟩:=by
 rw [h.2.2,Qc5 s k hk,Qc1,xO hc]
theorem QuotAt.stop (h:QuotAt s a k) (hk:k<s.size) (h34:s[k].toNat≠34) (hc:s[k].toNat=92∨s[k].toNat=9∨s[k].toNat=10∨s[k].toNat=13):Qc1 1 (suf s (a+1))=⟨0,0,2⟩:=by
 rw [h.2.2,Qc5 s k hk,Qc1,xN h34,xO hc]
theorem QuotAt.bad (h:QuotAt s a k) (hk:k<s.size) (h34:s[k].toNat≠34) (hc:¬ (s[k].toNat=92∨s[k].toNat=9∨s[k].toNat=10∨s[k].toNat=13)) (ha:Qaq s[k].toNat=false):Qc1 1 (suf s (a+1))=⟨0,k-a,1⟩:=by
 rw [h.2.2,Qc5 s k hk,Qc1,xN h34,xN hc,xN (by simp [ha])]
theorem QuotAt.next (h:QuotAt s a k) (hk:k<s.size) (h34:s[k].toNat≠34) (hc:¬ (s[k].toNat=92∨s[k].toNat=9∨s[k].toNat=10∨s[k].toNat=13)) (ha:Qaq s[k].toNat=true):QuotAt s a (k+1):=by
 refine ⟨by have:=h.1;omega,by omega,?_⟩;rw [h.2.2,Qc5 s k hk,Qc1,xN h34,xN hc,xO ha,show k-a+1=k+1-a from by have:=h.1;omega]
end
theorem Qc3 {n m:Nat} (h:n=m):((n:Int)==(m:Int))=true:=by simp [h]
theorem Qdq {n m:Nat} (h:n≠m):((n:Int)==(m:Int))=false:=by simp;omega
theorem Qhb (s:ByteArray) (w:World) (h0:0<s.size) (hs:s.size≤maxLen) :
  Calls Tryz.prog 170 #[.string s] w fun e w'=>e = .returned (.tuple #[.int .i64 (Qc1 1 (suf s 1)).kind,.int .i64 (Qc1 1 (suf s 1)).n,.int .i64 (Qc1 1 (suf s 1)).e])∧w=w':=by
 unfold maxLen at hs;have hst:=hQ (QuotAt.start s 0 h0)
 go_enter Tryz.func170,Tryz.ntmps170
 go_wp2
 go_loop [5] (fun a=>∃ (k:Nat),1≤k∧k≤s.size∧a = .int .i64 k∧QuotAt s 0 k) (fun a=>s.size-(intOf a).toNat)
 case atStart=>exact ⟨1,xA _,h0,rfl,hst.out⟩
 case round =>
  obtain ⟨k,h1,hk,rfl,hrel⟩:=hrel;have HR:=hQ hrel;clear hrel hst
  by_cases hlt:k<s.size
  ·by_cases h34:s[k].toNat=34
   ·have g34:((s[k].toNat:Int)==34)=true:=Qc3 h34;have H34:=hQ h34;clear h34
    go_wp2
    go_ret3
    exact ⟨Qbs 6 (k+1) 0 (HR.out.close hlt H34.out) rfl (by omega) rfl,rfl⟩
   ·have g34:((s[k].toNat:Int)==34)=false:=Qdq h34;have H34:=hQ h34;clear h34
    by_cases hstop:s[k].toNat=92∨s[k].toNat=9∨s[k].toNat=10∨s[k].toNat=13
    ·have HS:=hQ hstop
     rcases hstop with h | h | h | h
     ·have g1:((s[k].toNat:Int)==92)=true:=Qc3 h;clear h
      go_wp2
      go_ret3
      exact ⟨Qbs 0 0 2 (HR.out.stop hlt H34.out HS.out) rfl rfl rfl,rfl⟩
     ·have g1:((s[k].toNat:Int)==92)=false:=Qdq (m:=92) (by omega);have g2:((s[k].toNat:Int)==9)=true:=Qc3 h;clear h
      go_wp2
      go_ret3
      exact ⟨Qbs 0 0 2 (HR.out.stop hlt H34.out HS.out) rfl rfl rfl,rfl⟩
     ·have g1:((s[k].toNat:Int)==92)=false:=Qdq (m:=92) (by omega);have g2:((s[k].toNat:Int)==9)=false:=Qdq (m:=9) (by omega);have g3:((s[k].toNat:Int)==10)=true:=Qc3 h;clear h
      go_wp2
      go_ret3
      exact ⟨Qbs 0 0 2 (HR.out.stop hlt H34.out HS.out) rfl rfl rfl,rfl⟩
     ·have g1:((s[k].toNat:Int)==92)=false:=Qdq (m:=92) (by omega);have g2:((s[k].toNat:Int)==9)=false:=Qdq (m:=9) (by omega);have g3:((s[k].toNat:Int)==10)=false:=Qdq (m:=10) (by omega);have g4:((s[k].toNat:Int)==13)=true:=Qc3 h;clear h
      go_wp2
      go_ret3
      exact ⟨Qbs 0 0 2 (HR.out.stop hlt H34.out HS.out) rfl rfl rfl,rfl⟩
    ·have g1:((s[k].toNat:Int)==92)=false:=Qdq (fun h=>hstop (.inl h));have g2:((s[k].toNat:Int)==9)=false:=Qdq (fun h=>hstop (.inr (.inl h)));have g3:((s[k].toNat:Int)==10)=false:=Qdq (fun h=>hstop (.inr (.inr (.inl h))));have g4:((s[k].toNat:Int)==13)=false:=Qdq (fun h=>hstop (.inr (.inr (.inr h))));have HS:=hQ hstop;clear hstop
     cases ha:Qaq s[k].toNat
     ·go_wp2_with (go_at_call 164;refine (Qct _ _).mono ?_;rintro e w' ⟨rfl,rfl⟩)
      go_ret3
      exact ⟨Qbs 0 k 1 (HR.out.bad hlt H34.out HS.out ha) rfl (by omega) rfl,rfl⟩
     ·go_wp2_with (go_at_call 164;refine (Qct _ _).mono ?_;rintro e w' ⟨rfl,rfl⟩)
      go_round
      case rel=>exact ⟨k+1,by omega,by omega,by go_num,HR.out.next hlt H34.out HS.out ha⟩
      case measure=>simp [intOf];omega
  ·go_wp2
   go_ret3
   exact ⟨Qbs 0 0 2 (HR.out.done hlt) rfl rfl rfl,rfl⟩
theorem Qrx (s:ByteArray) (h0:0<s.size) (h:s[0].toNat=61) (h1:1<s.size) (h2:s[1].toNat=61):Qd9 (suf s 0)=⟨8,2,0⟩:=by
 have:Qbn (suf s 0)=2:=by unfold Qbn;rw [Qep s 0 h0,xO h,Qep s 1 h1,xO h2]
 unfold Qd9;rw [this,xN (by decide)]
theorem Qn1 (s:ByteArray) (h0:0<s.size) (h:s[0].toNat=61) (h1:∀ h:1<s.size,s[1].toNat≠61):Qd9 (suf s 0)=⟨8,1,0⟩:=by
 have:Qbn (suf s 0)=1:=by
  unfold Qbn;rw [Qep s 0 h0,xO h]
  by_cases h2:1<s.size
  ·rw [Qep s 1 h2,xN (h1 h2)]
  ·unfold at';rw [List.getD_eq_getElem?_getD,List.getElem?_eq_none (by rw [Qbt];omega)]
   decide
 unfold Qd9;rw [this,xN (by decide)]
theorem Qry (s:ByteArray) (h0:0<s.size) (h:s[0].toNat≠61) (h1:Qe1 s[0].toNat=true):Qd9 (suf s 0)=⟨8,1,0⟩:=by
 have:Qbn (suf s 0)=1:=by unfold Qbn;rw [Qep s 0 h0,xN h,xO h1]
 unfold Qd9;rw [this,xN (by decide)]
theorem Qp8 (s:ByteArray) (h0:0<s.size) (h:s[0].toNat≠61) (h1:Qe1 s[0].toNat=false):Qd9 (suf s 0)=⟨0,0,2⟩:=by
 have:Qbn (suf s 0)=0:=by unfold Qbn;rw [Qep s 0 h0,xN h,xN (by simp [h1])]
 unfold Qd9;rw [this,xO rfl]
theorem Qjm (s:ByteArray) (w:World) (h0:0<s.size) (_hs:s.size≤maxLen) :
  Calls Tryz.prog 171 #[.string s] w fun e w'=>e = .returned (.tuple #[.int .i64 (Qd9 (suf s 0)).kind,.int .i64 (Qd9 (suf s 0)).n,.int .i64 (Qd9 (suf s 0)).e])∧w=w':=by
 by_cases h61:s[0].toNat=61
 ·have g61:((s[0].toNat:Int)==61)=true:=Qc3 h61;have H61:=hQ h61;clear h61
  by_cases h1:1<s.size
  ·by_cases h2:s[1].toNat=61
   ·have g2:((s[1].toNat:Int)==61)=true:=Qc3 h2;have H2:=hQ h2;clear h2
    go_enter Tryz.func171,Tryz.ntmps171
    go_wp2
    go_ret3
    exact ⟨Qbs 8 2 0 (Qrx s h0 H61.out h1 H2.out) rfl rfl rfl,rfl⟩
   ·have g2:((s[1].toNat:Int)==61)=false:=Qdq h2;have H2:=hQ h2;clear h2
    go_enter Tryz.func171,Tryz.ntmps171
    go_wp2
    go_ret3
    exact ⟨Qbs 8 1 0 (Qn1 s h0 H61.out (fun _=>H2.out)) rfl rfl rfl,rfl⟩
  ·go_enter Tryz.func171,Tryz.ntmps171
   go_wp2
   go_ret3
   exact ⟨Qbs 8 1 0 (Qn1 s h0 H61.out (fun h=>absurd h h1)) rfl rfl rfl,rfl⟩
 ·have g61:((s[0].toNat:Int)==61)=false:=Qdq h61;have H61:=hQ h61;clear h61
  cases ho:Qe1 s[0].toNat
  ·have H1:=hQ ho;simp only [Qe1,Bool.or_eq_false_iff,and_assoc] at ho;obtain ⟨a1,a2,a3,a4,a5,a6,a7,a8,a9,a10,a11⟩:=ho
   go_enter Tryz.func171,Tryz.ntmps171
   go_wp2
   go_ret3
   exact ⟨Qbs 0 0 2 (Qp8 s h0 H61.out H1.out) rfl rfl rfl,rfl⟩
  ·have H1:=hQ ho;clear ho
   go_enter Tryz.func171,Tryz.ntmps171
   go_wp2
   all_goals
    first
     | (go_ret3;exact ⟨Qbs 8 1 0 (Qry s h0 H61.out H1.out) rfl rfl rfl,rfl⟩)
     | (exfalso;have:=H1.out;simp_all [Qe1])
theorem Qmd (s:ByteArray) (a:Nat) (w:World) (hs:s.size≤maxLen) :
  Calls Tryz.prog 218 #[.string (s.extract a s.size)] w fun e w'=>e = .returned (.int .i64 (Qac (suf s a):Nat))∧w=w':=by
 rw [←Qim s a];exact Qda _ w (by rw [ByteArray.size_extract];omega)
theorem Qo6 (s:ByteArray) (a m:Nat) (w:World) :
  Calls Tryz.prog 219 #[.string ((s.extract a s.size).extract 0 m)] w fun e w'=>e = .returned (.bool (Qar ((suf s a).take m)))∧w=w':=by
 have h:=Qk8 ((s.extract a s.size).extract 0 m) w;rw [Qd7,Qim] at h;exact h
theorem Qb5 (s:ByteArray) (a:Nat):Qac (suf s a)≤s.size-a:=by
 have:=Ql9 Qh4 (suf s a)
 rw [Qbt] at this;exact this
theorem Qrz (s:ByteArray) (a k:Nat):at' (suf s a) k=at' (suf s 0) (a+k):=by
 unfold at' suf;rw [List.getD_eq_getElem?_getD,List.getD_eq_getElem?_getD,List.getElem?_drop,List.getElem?_drop,Nat.zero_add]
theorem Qtl (s:ByteArray) (a:Nat) (h:0<(s.extract a s.size).size):(s.extract a s.size)[0].toNat=at' (suf s 0) a:=by
 rw [←Qep _ 0 h,Qim,Qrz];rfl
theorem Qjn (s:ByteArray) (a:Nat) (h:a<s.size):0<(s.extract a s.size).size:=by
 rw [ByteArray.size_extract];omega
section
variable (s:ByteArray) (n:Nat)
theorem Qxl (h:24<n∨24<Qac (suf s (n+1))):Qc9 (suf s 0) n=⟨0,0,3⟩:=by
 unfold Qc9;rw [Qe5,Nat.zero_add,xO h]
theorem Zbu (h:¬ (24<n∨24<Qac (suf s (n+1)))) (hr:Qar ((suf s (n+1)).take (Qac (suf s (n+1))))=true):Qc9 (suf s 0) n=⟨0,0,2⟩:=by
 unfold Qc9;rw [Qe5,Nat.zero_add,xN h,xO hr]
theorem Zee (h:¬ (24<n∨24<Qac (suf s (n+1)))) (hr:Qar ((suf s (n+1)).take (Qac (suf s (n+1))))=false) (h0:n+1<s.size)
  (hu:Qbz ((s.extract (n+1) s.size)[0]'(Qjn s _ h0)).toNat=true):Qc9 (suf s 0) n=⟨4,n+1+Qac (suf s (n+1)),0⟩:=by
 rw [Qtl s (n+1) (Qjn s _ h0)] at hu;unfold Qc9;rw [Qe5,Nat.zero_add,xN h,xN (by simp [hr]),xO hu]
theorem Zbv (h:¬ (24<n∨24<Qac (suf s (n+1)))) (hr:Qar ((suf s (n+1)).take (Qac (suf s (n+1))))=false) (h0:n+1<s.size)
  (hu:Qbz ((s.extract (n+1) s.size)[0]'(Qjn s _ h0)).toNat=false):Qc9 (suf s 0) n=⟨3,n+1+Qac (suf s (n+1)),0⟩:=by
 rw [Qtl s (n+1) (Qjn s _ h0)] at hu;unfold Qc9;rw [Qe5,Nat.zero_add,xN h,xN (by simp [hr]),xN (by simp [hu])]
end
theorem Qel (s:ByteArray) (n:Nat) (w:World) (h0:n+1<s.size) (hs:s.size≤maxLen) :
  Calls Tryz.prog 220 #[.string s,.int .i64 n] w fun e w'=>e = .returned (.tuple #[.int .i64 (Qc9 (suf s 0) n).kind,.int .i64 (Qc9 (suf s 0) n).n,.int .i64 (Qc9 (suf s 0) n).e])∧w=w':=by
 have HS:=hQ hs;have hm:=Qb5 s (n+1);unfold maxLen at hs
 go_enter Tryz.func220,Tryz.ntmps220
 go_wp2_with (first | (go_at_call 218;refine (Qmd _ _ _ HS.out).mono ?_;rintro e w' ⟨rfl,rfl⟩) | (go_at_call 219;refine (Qo6 _ _ _ _).mono ?_;rintro e w' ⟨rfl,rfl⟩) | (go_at_call 217;refine (Qfw _ _).mono ?_;rintro e w' ⟨rfl,rfl⟩))
 all_goals
  go_ret3
  first
   | exact ⟨Qbs 0 0 3 (Qxl s n (by omega)) rfl rfl rfl,rfl⟩
   | exact ⟨Qbs 0 0 2 (Zbu s n (by omega) (by assumption)) rfl rfl rfl,rfl⟩
   | exact ⟨Qbs 4 (n+1+Qac (suf s (n+1))) 0 (Zee s n (by omega) (by assumption) h0 (by assumption)) rfl (by omega) rfl,rfl⟩
   | exact ⟨Qbs 3 (n+1+Qac (suf s (n+1))) 0 (Zbv s n (by omega) (by assumption) h0 (by assumption)) rfl (by omega) rfl,rfl⟩
theorem Qem (s:ByteArray) (m:Nat) (w:World) :
  Calls Tryz.prog 219 #[.string (s.extract 0 m)] w fun e w'=>e = .returned (.bool (Qar ((suf s 0).take m)))∧w=w':=by
 have h:=Qk8 (s.extract 0 m) w;rw [Qd7,Nat.sub_zero] at h;exact h
theorem Qdb {l:List UInt8} (h:Qdj l=false):Qd1 l=Qd4 l:=by
 unfold Qd1;rw [xN (by simp [h])]
section
variable {l:List UInt8}
theorem Qdz (h:24<Qac l):Qd4 l=⟨0,0,3⟩:=by
 unfold Qd4;rw [xO h]
theorem Qes (h:¬ 24<Qac l) (hr:Qar (l.take (Qac l))=true):Qd4 l=⟨7,Qac l,0⟩:=by
 unfold Qd4;rw [xN h,xO hr]
theorem Qft (h:¬ 24<Qac l) (hr:Qar (l.take (Qac l))=false) (hu:Qbz (at' l 0)=true):Qd4 l=⟨2,Qac l,0⟩:=by
 unfold Qd4;rw [xN h,xN (by simp [hr]),xO hu]
theorem Qet (h:¬ 24<Qac l) (hr:Qar (l.take (Qac l))=false) (hu:Qbz (at' l 0)=false):Qd4 l=⟨1,Qac l,0⟩:=by
 unfold Qd4;rw [xN h,xN (by simp [hr]),xN (by simp [hu])]
end
theorem Qjo (s:ByteArray) (w:World) (h0:0<s.size) (hs:s.size<maxLen) :
  Calls Tryz.prog 167 #[.string s] w fun e w'=>e = .returned (.tuple #[.int .i64 (Qd1 (suf s 0)).kind,.int .i64 (Qd1 (suf s 0)).n,.int .i64 (Qd1 (suf s 0)).e])∧w=w':=by
 have HS:=hQ (Nat.le_of_lt hs);have hm:=Qb5 s 0;have H0:=hQ (Qep s 0 h0);have HL:=hQ (Qbt s 0);have HD:=hQ (show Qdj (suf s 0)=(Qbz (at' (suf s 0) 0) && !Qar ((suf s 0).take (Qac (suf s 0))) && decide (Qac (suf s 0)+1<(suf s 0).length) && at' (suf s 0) (Qac (suf s 0))==46 && Qau (at' (suf s 0) (Qac (suf s 0)+1))) from rfl);unfold maxLen at hs
 cases hu:Qbz s[0].toNat
 ·cases hr:Qar ((suf s 0).take (Qac (suf s 0)))
  all_goals
   have HP:=hQ (Qdb (show Qdj (suf s 0)=false from by rw [HD.out,H0.out,hu];rfl))
   by_cases h24:24<Qac (suf s 0)
   all_goals
    go_enter Tryz.func167,Tryz.ntmps167
    go_wp2_with (first | (go_at_call 218;refine (Qda _ _ HS.out).mono ?_;rintro e w' ⟨rfl,rfl⟩) | (go_at_call 219;refine (Qem _ _ _).mono ?_;rintro e w' ⟨rfl,rfl⟩) | (go_at_call 217;refine (Qfw _ _).mono ?_;rintro e w' ⟨rfl,rfl⟩) | (go_at_call 166;refine (Qbu _ _).mono ?_;rintro e w' ⟨rfl,rfl⟩) | (go_at_call 220;refine (Qel _ _ _ hn HS.out).mono ?_;rintro e w' ⟨rfl,rfl⟩))
    go_ret3
    first
     | exact ⟨Qbs 0 0 3 (HP.out.trans (Qdz h24)) rfl rfl rfl,rfl⟩
     | exact ⟨Qbs 7 (Qac (suf s 0)) 0 (HP.out.trans (Qes h24 hr)) rfl rfl rfl,rfl⟩
     | exact ⟨Qbs 2 (Qac (suf s 0)) 0 (HP.out.trans (Qft h24 hr (by rw [H0.out];exact hu))) rfl rfl rfl,rfl⟩
     | exact ⟨Qbs 1 (Qac (suf s 0)) 0 (HP.out.trans (Qet h24 hr (by rw [H0.out];exact hu))) rfl rfl rfl,rfl⟩

 ·cases hr:Qar ((suf s 0).take (Qac (suf s 0)))
  ·by_cases hn:Qac (suf s 0)+1<s.size
   ·have hn':((Qac (suf s 0):Nat):Int)+1<(s.size:Int):=by omega
    by_cases h46:s[Qac (suf s 0)].toNat=46
    ·have g46:((s[Qac (suf s 0)].toNat:Int)==46)=true:=Qc3 h46;have H46:=hQ h46;clear h46
     cases hl:Qau s[Qac (suf s 0)+1].toNat
     ·have HP:=hQ (Qdb (show Qdj (suf s 0)=false from by rw [HD.out,Qep s (Qac (suf s 0)+1) hn,hl];simp))
      by_cases h24:24<Qac (suf s 0)
      all_goals
       go_enter Tryz.func167,Tryz.ntmps167
       go_wp2_with (first | (go_at_call 218;refine (Qda _ _ HS.out).mono ?_;rintro e w' ⟨rfl,rfl⟩) | (go_at_call 219;refine (Qem _ _ _).mono ?_;rintro e w' ⟨rfl,rfl⟩) | (go_at_call 217;refine (Qfw _ _).mono ?_;rintro e w' ⟨rfl,rfl⟩) | (go_at_call 166;refine (Qbu _ _).mono ?_;rintro e w' ⟨rfl,rfl⟩) | (go_at_call 220;refine (Qel _ _ _ hn HS.out).mono ?_;rintro e w' ⟨rfl,rfl⟩))
       go_ret3
       first
        | exact ⟨Qbs 0 0 3 (HP.out.trans (Qdz h24)) rfl rfl rfl,rfl⟩
        | exact ⟨Qbs 7 (Qac (suf s 0)) 0 (HP.out.trans (Qes h24 hr)) rfl rfl rfl,rfl⟩
        | exact ⟨Qbs 2 (Qac (suf s 0)) 0 (HP.out.trans (Qft h24 hr (by rw [H0.out];exact hu))) rfl rfl rfl,rfl⟩
        | exact ⟨Qbs 1 (Qac (suf s 0)) 0 (HP.out.trans (Qet h24 hr (by rw [H0.out];exact hu))) rfl rfl rfl,rfl⟩

     ·have HT:=hQ (show Qd1 (suf s 0)=Qc9 (suf s 0) (Qac (suf s 0)) from by
       unfold Qd1;rw [xO (by rw [HD.out,HL.out,H0.out,hu,hr,Qep s _ (by omega),H46.out,Qep s _ hn,hl];simpa using hn)])
      go_enter Tryz.func167,Tryz.ntmps167
      go_wp2_with (first | (go_at_call 218;refine (Qda _ _ HS.out).mono ?_;rintro e w' ⟨rfl,rfl⟩) | (go_at_call 219;refine (Qem _ _ _).mono ?_;rintro e w' ⟨rfl,rfl⟩) | (go_at_call 217;refine (Qfw _ _).mono ?_;rintro e w' ⟨rfl,rfl⟩) | (go_at_call 166;refine (Qbu _ _).mono ?_;rintro e w' ⟨rfl,rfl⟩) | (go_at_call 220;refine (Qel _ _ _ hn HS.out).mono ?_;rintro e w' ⟨rfl,rfl⟩))
      go_ret3
      exact ⟨Qbs _ _ _ HT.out rfl rfl rfl,rfl⟩
    ·have g46:((s[Qac (suf s 0)].toNat:Int)==46)=false:=Qdq h46;have H47:=hQ h46;clear h46;have HP:=hQ (Qdb (show Qdj (suf s 0)=false from by rw [HD.out,Qep s (Qac (suf s 0)) (by omega),beq_eq_false_iff_ne.2 H47.out];simp))
     by_cases h24:24<Qac (suf s 0)
     all_goals
      go_enter Tryz.func167,Tryz.ntmps167
      go_wp2_with (first | (go_at_call 218;refine (Qda _ _ HS.out).mono ?_;rintro e w' ⟨rfl,rfl⟩) | (go_at_call 219;refine (Qem _ _ _).mono ?_;rintro e w' ⟨rfl,rfl⟩) | (go_at_call 217;refine (Qfw _ _).mono ?_;rintro e w' ⟨rfl,rfl⟩) | (go_at_call 166;refine (Qbu _ _).mono ?_;rintro e w' ⟨rfl,rfl⟩) | (go_at_call 220;refine (Qel _ _ _ hn HS.out).mono ?_;rintro e w' ⟨rfl,rfl⟩))
      go_ret3
      first
       | exact ⟨Qbs 0 0 3 (HP.out.trans (Qdz h24)) rfl rfl rfl,rfl⟩
       | exact ⟨Qbs 7 (Qac (suf s 0)) 0 (HP.out.trans (Qes h24 hr)) rfl rfl rfl,rfl⟩
       | exact ⟨Qbs 2 (Qac (suf s 0)) 0 (HP.out.trans (Qft h24 hr (by rw [H0.out];exact hu))) rfl rfl rfl,rfl⟩
       | exact ⟨Qbs 1 (Qac (suf s 0)) 0 (HP.out.trans (Qet h24 hr (by rw [H0.out];exact hu))) rfl rfl rfl,rfl⟩

   ·have hn':¬ ((Qac (suf s 0):Nat):Int)+1<(s.size:Int):=by omega
    have HP:=hQ (Qdb (show Qdj (suf s 0)=false from by rw [HD.out,HL.out,Nat.sub_zero,xR hn];simp))
    by_cases h24:24<Qac (suf s 0)
    all_goals
     go_enter Tryz.func167,Tryz.ntmps167
     go_wp2_with (first | (go_at_call 218;refine (Qda _ _ HS.out).mono ?_;rintro e w' ⟨rfl,rfl⟩) | (go_at_call 219;refine (Qem _ _ _).mono ?_;rintro e w' ⟨rfl,rfl⟩) | (go_at_call 217;refine (Qfw _ _).mono ?_;rintro e w' ⟨rfl,rfl⟩) | (go_at_call 166;refine (Qbu _ _).mono ?_;rintro e w' ⟨rfl,rfl⟩) | (go_at_call 220;refine (Qel _ _ _ hn HS.out).mono ?_;rintro e w' ⟨rfl,rfl⟩))
     go_ret3
     first
      | exact ⟨Qbs 0 0 3 (HP.out.trans (Qdz h24)) rfl rfl rfl,rfl⟩
      | exact ⟨Qbs 7 (Qac (suf s 0)) 0 (HP.out.trans (Qes h24 hr)) rfl rfl rfl,rfl⟩
      | exact ⟨Qbs 2 (Qac (suf s 0)) 0 (HP.out.trans (Qft h24 hr (by rw [H0.out];exact hu))) rfl rfl rfl,rfl⟩
      | exact ⟨Qbs 1 (Qac (suf s 0)) 0 (HP.out.trans (Qet h24 hr (by rw [H0.out];exact hu))) rfl rfl rfl,rfl⟩

  ·have HP:=hQ (Qdb (show Qdj (suf s 0)=false from by rw [HD.out,hr];simp))
   by_cases h24:24<Qac (suf s 0)
   all_goals
    go_enter Tryz.func167,Tryz.ntmps167
    go_wp2_with (first | (go_at_call 218;refine (Qda _ _ HS.out).mono ?_;rintro e w' ⟨rfl,rfl⟩) | (go_at_call 219;refine (Qem _ _ _).mono ?_;rintro e w' ⟨rfl,rfl⟩) | (go_at_call 217;refine (Qfw _ _).mono ?_;rintro e w' ⟨rfl,rfl⟩) | (go_at_call 166;refine (Qbu _ _).mono ?_;rintro e w' ⟨rfl,rfl⟩) | (go_at_call 220;refine (Qel _ _ _ hn HS.out).mono ?_;rintro e w' ⟨rfl,rfl⟩))
    go_ret3
    first
     | exact ⟨Qbs 0 0 3 (HP.out.trans (Qdz h24)) rfl rfl rfl,rfl⟩
     | exact ⟨Qbs 7 (Qac (suf s 0)) 0 (HP.out.trans (Qes h24 hr)) rfl rfl rfl,rfl⟩
     | exact ⟨Qbs 2 (Qac (suf s 0)) 0 (HP.out.trans (Qft h24 hr (by rw [H0.out];exact hu))) rfl rfl rfl,rfl⟩
     | exact ⟨Qbs 1 (Qac (suf s 0)) 0 (HP.out.trans (Qet h24 hr (by rw [H0.out];exact hu))) rfl rfl rfl,rfl⟩

theorem Zef (s:ByteArray):(suf s 0).drop 1=suf s 1:=by rw [Qe5]
theorem Qjp (s:ByteArray) (w:World) (h0:0<s.size) (hs:s.size<maxLen) :
  Calls Tryz.prog 123 #[.string s] w fun e w'=>e = .returned (.tuple #[.int .i64 (Qbe (suf s 0)).kind,.int .i64 (Qbe (suf s 0)).n,.int .i64 (Qbe (suf s 0)).e])∧w=w':=by
 have HS:=hQ hs;have HT:=hQ (Nat.le_of_lt hs);have H0:=hQ (Qep s 0 h0);unfold maxLen at hs
 cases ha:Qaq s[0].toNat
 ·go_enter Tryz.func123,Tryz.ntmps123
  go_wp2_with (first | (go_at_call 164;refine (Qct _ _).mono ?_;rintro e w' ⟨rfl,rfl⟩) | (go_at_call 166;refine (Qbu _ _).mono ?_;rintro e w' ⟨rfl,rfl⟩) | (go_at_call 168;refine (Qdk _ _).mono ?_;rintro e w' ⟨rfl,rfl⟩) | (go_at_call 167;refine (Qjo _ _ h0 HS.out).mono ?_;rintro e w' ⟨rfl,rfl⟩) | (go_at_call 169;refine (Qha _ _ h0 HT.out).mono ?_;rintro e w' ⟨rfl,rfl⟩) | (go_at_call 170;refine (Qhb _ _ h0 HT.out).mono ?_;rintro e w' ⟨rfl,rfl⟩) | (go_at_call 171;refine (Qjm _ _ h0 HT.out).mono ?_;rintro e w' ⟨rfl,rfl⟩))
  go_ret3
  exact ⟨Qbs 0 0 1 (by unfold Qbe;rw [H0.out,xO ha]) rfl rfl rfl,rfl⟩
 ·have HA:=hQ (show ¬ Qaq (at' (suf s 0) 0)=false from by rw [H0.out,ha];decide)
  cases hl:Qau s[0].toNat
  ·have HL:=hQ (show ¬ Qau (at' (suf s 0) 0)=true from by rw [H0.out,hl];decide)
   cases hd:Qb0 s[0].toNat
   ·have HD:=hQ (show ¬ Qb0 (at' (suf s 0) 0)=true from by rw [H0.out,hd];decide)
    by_cases h34:s[0].toNat=34
    ·have g34:((s[0].toNat:Int)==34)=true:=Qc3 h34;have H34:=hQ (show at' (suf s 0) 0=34 from by rw [H0.out,h34]);clear h34
     go_enter Tryz.func123,Tryz.ntmps123
     go_wp2_with (first | (go_at_call 164;refine (Qct _ _).mono ?_;rintro e w' ⟨rfl,rfl⟩) | (go_at_call 166;refine (Qbu _ _).mono ?_;rintro e w' ⟨rfl,rfl⟩) | (go_at_call 168;refine (Qdk _ _).mono ?_;rintro e w' ⟨rfl,rfl⟩) | (go_at_call 167;refine (Qjo _ _ h0 HS.out).mono ?_;rintro e w' ⟨rfl,rfl⟩) | (go_at_call 169;refine (Qha _ _ h0 HT.out).mono ?_;rintro e w' ⟨rfl,rfl⟩) | (go_at_call 170;refine (Qhb _ _ h0 HT.out).mono ?_;rintro e w' ⟨rfl,rfl⟩) | (go_at_call 171;refine (Qjm _ _ h0 HT.out).mono ?_;rintro e w' ⟨rfl,rfl⟩))
     go_ret3
     exact ⟨Qbs _ _ _ (show Qbe (suf s 0)=Qc1 1 (suf s 1) from by unfold Qbe;rw [xN HA.out,xN HL.out,xN HD.out,xO H34.out,Zef]) rfl rfl rfl,rfl⟩
    ·have g34:((s[0].toNat:Int)==34)=false:=Qdq h34;have H34:=hQ (show ¬ at' (suf s 0) 0=34 from by rw [H0.out];exact h34);clear h34
     go_enter Tryz.func123,Tryz.ntmps123
     go_wp2_with (first | (go_at_call 164;refine (Qct _ _).mono ?_;rintro e w' ⟨rfl,rfl⟩) | (go_at_call 166;refine (Qbu _ _).mono ?_;rintro e w' ⟨rfl,rfl⟩) | (go_at_call 168;refine (Qdk _ _).mono ?_;rintro e w' ⟨rfl,rfl⟩) | (go_at_call 167;refine (Qjo _ _ h0 HS.out).mono ?_;rintro e w' ⟨rfl,rfl⟩) | (go_at_call 169;refine (Qha _ _ h0 HT.out).mono ?_;rintro e w' ⟨rfl,rfl⟩) | (go_at_call 170;refine (Qhb _ _ h0 HT.out).mono ?_;rintro e w' ⟨rfl,rfl⟩) | (go_at_call 171;refine (Qjm _ _ h0 HT.out).mono ?_;rintro e w' ⟨rfl,rfl⟩))
     go_ret3
     exact ⟨Qbs _ _ _ (show Qbe (suf s 0)=Qd9 (suf s 0) from by unfold Qbe;rw [xN HA.out,xN HL.out,xN HD.out,xN H34.out]) rfl rfl rfl,rfl⟩
   ·have HD:=hQ (show Qb0 (at' (suf s 0) 0)=true from by rw [H0.out,hd])
    go_enter Tryz.func123,Tryz.ntmps123
    go_wp2_with (first | (go_at_call 164;refine (Qct _ _).mono ?_;rintro e w' ⟨rfl,rfl⟩) | (go_at_call 166;refine (Qbu _ _).mono ?_;rintro e w' ⟨rfl,rfl⟩) | (go_at_call 168;refine (Qdk _ _).mono ?_;rintro e w' ⟨rfl,rfl⟩) | (go_at_call 167;refine (Qjo _ _ h0 HS.out).mono ?_;rintro e w' ⟨rfl,rfl⟩) | (go_at_call 169;refine (Qha _ _ h0 HT.out).mono ?_;rintro e w' ⟨rfl,rfl⟩) | (go_at_call 170;refine (Qhb _ _ h0 HT.out).mono ?_;rintro e w' ⟨rfl,rfl⟩) | (go_at_call 171;refine (Qjm _ _ h0 HT.out).mono ?_;rintro e w' ⟨rfl,rfl⟩))
    go_ret3
    exact ⟨Qbs _ _ _ (show Qbe (suf s 0)=Qi6 (suf s 0) from by unfold Qbe;rw [xN HA.out,xN HL.out,xO HD.out]) rfl rfl rfl,rfl⟩
  ·have HL:=hQ (show Qau (at' (suf s 0) 0)=true from by rw [H0.out,hl])
   go_enter Tryz.func123,Tryz.ntmps123
   go_wp2_with (first | (go_at_call 164;refine (Qct _ _).mono ?_;rintro e w' ⟨rfl,rfl⟩) | (go_at_call 166;refine (Qbu _ _).mono ?_;rintro e w' ⟨rfl,rfl⟩) | (go_at_call 168;refine (Qdk _ _).mono ?_;rintro e w' ⟨rfl,rfl⟩) | (go_at_call 167;refine (Qjo _ _ h0 HS.out).mono ?_;rintro e w' ⟨rfl,rfl⟩) | (go_at_call 169;refine (Qha _ _ h0 HT.out).mono ?_;rintro e w' ⟨rfl,rfl⟩) | (go_at_call 170;refine (Qhb _ _ h0 HT.out).mono ?_;rintro e w' ⟨rfl,rfl⟩) | (go_at_call 171;refine (Qjm _ _ h0 HT.out).mono ?_;rintro e w' ⟨rfl,rfl⟩))
   go_ret3
   exact ⟨Qbs _ _ _ (show Qbe (suf s 0)=Qd1 (suf s 0) from by unfold Qbe;rw [xN HA.out,xO HL.out]) rfl rfl rfl,rfl⟩
end Go.Proofs.YtjidpkcjpgdafaaGreat
