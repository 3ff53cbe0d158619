/- Part 27 -/
import Derived.Test.YtfjpemdejoejbaaGreatTt26
import Derived.IntWalk
import Derived.WalkSmall
set_option maxRecDepth 100000
set_option maxHeartbeats 4000000
namespace Go.Proofs.YtfjpemdejoejbaaGreat
open Go.RowKit
def Qn6:List UInt8→Nat
 | []=>0
 | c :: r=>if c=46 then 0 else Qn6 r+1
theorem Qwd:(l:List UInt8)→(i:Nat)→(∀ j,j<i→∀ c,l[j]? = some c→c≠46)→l[i]? = some 46→Qn6 l=i
 | [],i,_,h=>by simp at h
 | c :: r,0,_,h=>by simp at h;rw [Qn6,xO h]
 | c :: r,i+1,hn,h=>by
  rw [Qn6,xN (hn 0 (by omega) c rfl),Qwd r i (fun j hj c hc=>hn (j+1) (by omega) c (by simpa using hc)) (by simpa using h)]
theorem Qow:(l:List UInt8)→(∀ (j:Nat) (c:UInt8),l[j]? = some c→c≠46)→Qn6 l=l.length
 | [],_=>rfl
 | c :: r,hn=>by rw [Qn6,xN (hn 0 c rfl),Qow r (fun j c hc=>hn (j+1) c (by simpa using hc)),xD]
def Qne (s:ByteArray):Nat:=Qn6 s.data.toList
def Qfp (s:ByteArray):ByteArray × ByteArray × Bool:=if Qne s<s.size then (s.extract 0 (Qne s),s.extract (Qne s+1) s.size,true) else (⟨#[]⟩,s,false)
def Qub (s:ByteArray) (k:Nat):Prop:=∀ j,j<k→∀ c,s.data.toList[j]? = some c→c≠46
theorem Ql9 {s:ByteArray} {k:Nat} (h:Qub s k) {hk:k<s.size} (hc:s[k]≠46):Qub s (k+1):=fun j hj c hcj=>by
 by_cases e:j=k
 ·subst e;have:s.data.toList[j]? = some s[j]:=by rw [xF (by simpa using hk)];rfl
  rw [this] at hcj;injection hcj with hcj;rw [←hcj];exact hc
 ·exact h j (by omega) c hcj
theorem Qr4 {s:ByteArray} {k:Nat} (h:Qub s k) {hk:k<s.size} (hc:s[k] = 46):Qne s=k:=Qwd _ k h (by rw [xF (by simpa using hk)];exact congrArg some hc)
theorem Qr5 {s:ByteArray} (h:Qub s s.size):Qne s=s.size:=by
 have:=Qow s.data.toList (fun j c hc=>h j (by have:=(xP.1 hc).1;simpa using this) c hc)
 unfold Qne
 simpa using this
theorem Qma (s:ByteArray) (w:World) (hs:s.size≤maxLen):Calls Tryz.prog 136 #[.string s] w fun e w'=>e = .returned (.tuple #[.string (Qfp s).1,.string (Qfp s).2.1,.bool (Qfp s).2.2])∧∃ n,w'=w.drewN n:=by
 unfold maxLen at hs
 go_enter Tryz.func136,Tryz.ntmps136
 go_wp2
 go_loop [8] (fun i=>∃ k:Nat,i = .int .i64 k∧k≤s.size∧Hid (Qub s k)) (fun i=>s.size-(intOf i).toNat)
 case atStart=>exact ⟨0,rfl,xZ _,hQ fun j hj=>absurd hj (by omega)⟩
 case round =>
  obtain ⟨k,rfl,hk,hn⟩:=hrel
  by_cases hlt:k<s.size
  ·have hk1:IntKind.i64.wrap ((k:Int)+1)=(k:Int)+1:=IntWalk.i64_in _ (by omega)
   by_cases hc:s[k] = 46
   ·have d1:((s[k].toNat:Int)==46)=true:=by rw [hc];rfl
    have d2:(s[k].toNat:Int)=46:=by rw [hc];rfl
    have HV:=hQ (show Qfp s=(s.extract 0 k,s.extract (k+1) s.size,true) from by unfold Qfp;rw [Qr4 hn.out hc,xO hlt]);clear hn hc
    go_wp2
    go_quiet (fail)
    go_wp2
    go_ret3
    rw [HV.out];exact ⟨rfl,_,rfl⟩
   ·have d1:((s[k].toNat:Int)==46)=false:=by
     rw [beq_eq_false_iff_ne];intro e;exact hc (UInt8.toNat_inj.1 (by show s[k].toNat=46;omega))
    have HN:=hQ (Ql9 hn.out hc);clear hn hc
    go_wp2
    go_round
    case rel=>exact ⟨k+1,by go_num,by omega,HN⟩
    case measure=>simp [intOf];omega
  ·obtain rfl:k=s.size:=by omega
   have HV:=hQ (show Qfp s=(⟨#[]⟩,s,false) from by unfold Qfp;rw [Qr5 hn.out,xN (Nat.lt_irrefl _)]);clear hn
   go_wp2
   go_ret3
   rw [HV.out];exact ⟨rfl,0,rfl⟩
def Zav (s:ByteArray):Int:=if Qne s<s.size then (Qne s:Int) else -1
theorem Qxf (s:ByteArray) (w:World) (hs:s.size≤maxLen):Calls Tryz.prog 65 #[.string s] w fun e w'=>e = .returned (.int .i64 (Zav s))∧∃ n,w'=w.drewN n:=by
 unfold maxLen at hs
 go_enter Tryz.func65,Tryz.ntmps65
 go_wp2
 go_loop [3] (fun i=>∃ k:Nat,i = .int .i64 k∧k≤s.size∧Hid (Qub s k)) (fun i=>s.size-(intOf i).toNat)
 case atStart=>exact ⟨0,rfl,xZ _,hQ fun j hj=>absurd hj (by omega)⟩
 case round =>
  obtain ⟨k,rfl,hk,hn⟩:=hrel
  by_cases hlt:k<s.size
  ·have hk1:IntKind.i64.wrap ((k:Int)+1)=(k:Int)+1:=IntWalk.i64_in _ (by omega)
   by_cases hc:s[k] = 46
   ·have d1:((s[k].toNat:Int)==46)=true:=by rw [hc];rfl
    have d2:(s[k].toNat:Int)=46:=by rw [hc];rfl
    have HV:=hQ (show Zav s=(k:Int) from by unfold Zav;rw [Qr4 hn.out hc,xO hlt]);clear hn hc
    go_wp2
    first | go_ret3 | go_ret | skip
    rw [HV.out];exact ⟨rfl,0,rfl⟩
   ·have d1:((s[k].toNat:Int)==46)=false:=by
     rw [beq_eq_false_iff_ne];intro e;exact hc (UInt8.toNat_inj.1 (by show s[k].toNat=46;omega))
    have HN:=hQ (Ql9 hn.out hc);clear hn hc
    go_wp2
    go_round
    case rel=>exact ⟨k+1,by go_num,by omega,HN⟩
    case measure=>simp [intOf];omega
  ·obtain rfl:k=s.size:=by omega
   have HV:=hQ (show Zav s = -1 from by unfold Zav;rw [Qr5 hn.out,xN (Nat.lt_irrefl _)]);clear hn
   go_wp2
   first | go_ret3 | go_ret | skip
   rw [HV.out];exact ⟨rfl,0,rfl⟩
end Go.Proofs.YtfjpemdejoejbaaGreat
