/- Part 19: The contracts of lead and of the reference's Trivia. The contracts of divide of package link and of dot of its reference; plain: the first dot of a word. The contract of dot of the reference of link. -/
import Derived.Test.YtnnfdbmanamfdaaGreatLw1
import Derived.Test.YtnnfdbmanamfdaaGreatLw2
import Derived.Test.YtnnfdbmanamfdaaGreatLw18
import Derived.IntWalk
import Derived.WalkSmall
import Derived.Deep.QuietTactic
import Derived.BigQuiet
set_option maxRecDepth 100000
set_option maxHeartbeats 4000000
namespace Go.Proofs.YtnnfdbmanamfdaaGreat
open Go.RowKit
def LeadAt (s:ByteArray) (i k:Nat):Prop:=i ≤ k ∧ k ≤ s.size ∧ (SkipAt s i k false ∨ (k = s.size ∧ Qak s i = k))
def InnerAt (s:ByteArray) (i j k:Nat):Prop:=j ≤ k ∧ SkipAt s i k true ∧ (k = j → ∃ h:k < s.size,s[k].toNat = 35)
theorem ret_ints {a b c d:Int} (h:a = b) (h':c = d):Ending.returned (.tuple #[.int .i64 a,.int .i64 c]) = .returned (.tuple #[.int .i64 b,.int .i64 d]):=by rw [h,h']
theorem LeadAt.state {s:ByteArray} {i k:Nat} (h:LeadAt s i k) (hk:k < s.size):SkipAt s i k false:=by
 obtain ⟨_,_,h | h⟩:=h
 ·exact h
 ·omega
theorem LeadAt.done {s:ByteArray} {i k:Nat} (h:LeadAt s i k) (hk:¬ k < s.size):Qak s i = k ∧ badAt s i = -1:=by
 obtain ⟨_,_,h | ⟨rfl,h⟩⟩:=h
 ·exact ⟨(h.done hk).1,badAt_no (h.done hk) (.inl rfl)⟩
 ·exact ⟨h,badAt_no ⟨h,rfl⟩ (.inr hk)⟩
theorem LeadAt.white {s:ByteArray} {i k:Nat} (h:LeadAt s i k) (hk:k < s.size) (hw:Qd8 s[k].toNat = true):LeadAt s i (k + 1):=by
 have h1:=(h.state hk).white hk hw
 exact ⟨h1.1,h1.2.1,.inl h1⟩
theorem LeadAt.other {s:ByteArray} {i k:Nat} (h:LeadAt s i k) (hk:k < s.size) (hw:Qd8 s[k].toNat = false) (hc:s[k].toNat ≠ 35):Qak s i = k ∧ badAt s i = -1:=by
 have h1:=(h.state hk).other hk hw hc
 exact ⟨h1.1,badAt_no h1 (.inl rfl)⟩
theorem LeadAt.inner {s:ByteArray} {i k:Nat} (h:LeadAt s i k) (hk:k < s.size) (hc:s[k].toNat = 35):InnerAt s i k k :=
 ⟨xA _,(h.state hk).begun hk hc,fun _=>⟨hk,hc⟩⟩
theorem InnerAt.next {s:ByteArray} {i j k:Nat} (h:InnerAt s i j k) (hk:k < s.size) (ha:Qaq s[k].toNat = true) (hc:s[k].toNat ≠ 10):InnerAt s i j (k + 1):=by
 have h1:=h.2.1.inside hk ha
 have h2:(s[k].toNat != 10) = true:=by simpa using hc
 rw [h2] at h1
 have:=h.1
 exact ⟨by omega,h1,by omega⟩
theorem InnerAt.bad {s:ByteArray} {i j k:Nat} (h:InnerAt s i j k) (hk:k < s.size) (ha:Qaq s[k].toNat = false):Qak s i = k ∧ badAt s i = k:=by
 have h1:=h.2.1.bad hk ha
 exact ⟨h1.1,badAt_yes h1 hk⟩
theorem InnerAt.over {s:ByteArray} {i j k:Nat} (h:InnerAt s i j k) (hk:¬ k < s.size):LeadAt s i k ∧ j < k:=by
 have h1:=h.2.1
 refine ⟨⟨h1.1,h1.2.1,.inr ⟨by have:=h1.2.1;omega,(h1.done hk).1⟩⟩,?_⟩
 rcases Nat.lt_or_ge j k with h2 | h2
 ·exact h2
 ·have:=h.1
  obtain ⟨h3,_⟩:=h.2.2 (by omega)
  omega
theorem InnerAt.ended {s:ByteArray} {i j k:Nat} (h:InnerAt s i j k) (hk:k < s.size) (hc:s[k].toNat = 10):LeadAt s i k ∧ j < k:=by
 have h1:=h.2.1
 refine ⟨⟨h1.1,h1.2.1,.inl (h1.ended hk hc)⟩,?_⟩
 rcases Nat.lt_or_ge j k with h2 | h2
 ·exact h2
 ·have:=h.1
  obtain ⟨_,h4⟩:=h.2.2 (by omega)
  omega
theorem lead_any (s:ByteArray) (i:Nat) (w:World) (hi:i ≤ s.size) (hs:s.size ≤ maxLen) :
  Calls Tryz.prog 183 #[.string s,.int .i64 i] w fun e w'=>e = .returned (.tuple #[.int .i64 (((Qak s i:Nat):Int) - (i:Int)),.int .i64 (badAt s i)]) ∧ w = w':=by
 unfold maxLen at hs
 have hst:=hQ (show LeadAt s i i from ⟨xA _,hi,.inl (SkipAt.start s i hi)⟩)
 go_enter Tryz.func183,Tryz.ntmps183
 go_wp2
 go_loop [6] (fun a=>∃ (k:Nat),i ≤ k ∧ k ≤ s.size ∧ a = .int .i64 k ∧ LeadAt s i k) (fun a=>s.size - (intOf a).toNat)
 case atStart=>exact ⟨i,xA _,hi,rfl,hst.out⟩
 case round =>
  obtain ⟨k,hik,hk,rfl,hrel⟩:=hrel
  have HR:=hQ hrel
  clear hrel hst
  by_cases hlt:k < s.size
  ·cases hw:Qd8 s[k].toNat
   ·by_cases hc:s[k].toNat = 35
    ·have hc':((s[k].toNat:Int) == 35) = true:=by simp [hc]
     have HC:=hQ hc
     clear hc
     go_wp2_with (first | (go_at_call 187;refine (Qa3 _ _).mono ?_;rintro e w' ⟨rfl,rfl⟩) | (go_at_call 181;refine (Qdo _ _).mono ?_;rintro e w' ⟨rfl,rfl⟩))
     clear hc' hw
     go_loop [6] (fun a=>∃ (k':Nat),i ≤ k' ∧ k' ≤ s.size ∧ a = .int .i64 k' ∧ InnerAt s i k k') (fun a=>s.size - (intOf a).toNat)
     case atStart=>exact ⟨k,hik,hk,rfl,HR.out.inner hlt HC.out⟩
     case round =>
      obtain ⟨k',hik',hk',rfl,hrel⟩:=hrel
      have HI:=hQ hrel
      clear hrel
      by_cases hlt':k' < s.size
      ·by_cases h10:s[k'].toNat = 10
       ·have h10':((s[k'].toNat:Int) != 10) = false:=by simp [h10]
        have H10:=hQ h10
        clear h10
        go_wp2
        have HO:=hQ (HI.out.ended hlt' H10.out)
        go_round
        case rel=>exact ⟨k',hik',hk',rfl,HO.out.1⟩
        case measure=>have:=HO.out.2;simp [intOf];omega
       ·have h10':((s[k'].toNat:Int) != 10) = true:=by simp;omega
        have H10:=hQ h10
        clear h10
        cases ha:Qaq s[k'].toNat
        ·go_wp2_with (first | (go_at_call 187;refine (Qa3 _ _).mono ?_;rintro e w' ⟨rfl,rfl⟩) | (go_at_call 181;refine (Qdo _ _).mono ?_;rintro e w' ⟨rfl,rfl⟩))
         go_ret2
         obtain ⟨h1,h2⟩:=HI.out.bad hlt' ha
         exact ⟨ret_ints (by rw [h1]) (by rw [h2]),rfl⟩
        ·go_wp2_with (first | (go_at_call 187;refine (Qa3 _ _).mono ?_;rintro e w' ⟨rfl,rfl⟩) | (go_at_call 181;refine (Qdo _ _).mono ?_;rintro e w' ⟨rfl,rfl⟩))
         go_round
         case rel=>exact ⟨k' + 1,by omega,by omega,by go_num,HI.out.next hlt' ha H10.out⟩
         case measure=>simp [intOf];omega
      ·go_wp2
       have HO:=hQ (HI.out.over hlt')
       go_round
       case rel=>exact ⟨k',hik',hk',rfl,HO.out.1⟩
       case measure=>have:=HO.out.2;simp [intOf];omega
    ·have hc':((s[k].toNat:Int) == 35) = false:=by simp;omega
     have HC:=hQ hc
     clear hc
     go_wp2_with (first | (go_at_call 187;refine (Qa3 _ _).mono ?_;rintro e w' ⟨rfl,rfl⟩) | (go_at_call 181;refine (Qdo _ _).mono ?_;rintro e w' ⟨rfl,rfl⟩))
     go_ret2
     obtain ⟨h1,h2⟩:=HR.out.other hlt hw HC.out
     exact ⟨ret_ints (by rw [h1]) (by rw [h2]),rfl⟩
   ·go_wp2_with (first | (go_at_call 187;refine (Qa3 _ _).mono ?_;rintro e w' ⟨rfl,rfl⟩) | (go_at_call 181;refine (Qdo _ _).mono ?_;rintro e w' ⟨rfl,rfl⟩))
    go_round
    case rel=>exact ⟨k + 1,by omega,by omega,by go_num,HR.out.white hlt hw⟩
    case measure=>simp [intOf];omega
  ·go_wp2
   go_ret2
   obtain ⟨h1,h2⟩:=HR.out.done hlt
   exact ⟨ret_ints (by rw [h1]) (by rw [h2]),rfl⟩
theorem lead_zero (s:ByteArray) (w:World) (hs:s.size ≤ maxLen) :
  Calls Tryz.prog 183 #[.string s,.int .i64 0] w fun e w'=>e = .returned (.tuple #[.int .i64 ((Qak s 0:Nat):Int),.int .i64 (badAt s 0)]) ∧ w = w':=by
 have h:=lead_any s 0 w (Nat.zero_le _) hs
 simpa using h
theorem openF_all {s:ByteArray} (h:Qak s 0 = s.size):openF false (suf s 0) = Qc2 s 0:=by
 refine openF_skip false (suf s 0) ?_
 rw [Qbt]
 unfold Qak at h
 omega
def OpenAt (s:ByteArray) (k:Nat) (o:Bool):Prop:=k ≤ s.size ∧ openF false (suf s 0) = openF o (suf s k)
theorem OpenAt.next {s:ByteArray} {k:Nat} {o:Bool} (h:OpenAt s k o) (hk:k < s.size):OpenAt s (k + 1) (if s[k].toNat = 10 then false else if s[k].toNat = 35 then true else o):=by
 refine ⟨by omega,?_⟩
 rw [h.2,Qc9 s k hk]
 rfl
theorem OpenAt.done {s:ByteArray} {k:Nat} {o:Bool} (h:OpenAt s k o) (hk:¬ k < s.size):openF false (suf s 0) = o:=by
 rw [h.2,suf_end s k (by omega)]
 rfl
theorem rtrivia_any (s:ByteArray) (fin:Bool) (w:World) (hs:s.size ≤ maxLen) :
  Calls Tryz.prog 169 #[.string s,.bool fin] w fun e w'=>e = .returned (.bool (Qfp s fin)) ∧ w = w':=by
 have h1:=Qf0 s 0 (Nat.zero_le _)
 have HS:=hQ hs
 unfold maxLen at hs
 have HT:=hQ (show Qfp s fin = ((Qak s 0 == s.size) && (fin || !Qc2 s 0)) from rfl)
 by_cases hz:Qak s 0 = s.size
 ·have HZ:=hQ hz
  have hb:badAt s 0 = -1:=badAt_no ⟨hz,rfl⟩ (.inr (by omega))
  have hz':((Qak s 0:Nat):Int) = (s.size:Int):=by omega
  clear hz
  cases fin
  ·go_enter Tryz.func169,Tryz.ntmps169
   go_wp2_with (go_at_call 183;refine (lead_zero s _ HS.out).mono ?_;rintro e w' ⟨rfl,rfl⟩)
   go_loop [7,8] (fun a b=>∃ (k:Nat) (o:Bool),k ≤ s.size ∧ b = .int .i64 k ∧ a = .bool o ∧ OpenAt s k o) (fun _ b=>s.size - (intOf b).toNat)
   case atStart=>exact ⟨0,false,Nat.zero_le _,rfl,rfl,Nat.zero_le _,rfl⟩
   case round =>
    obtain ⟨k,o,hk,rfl,rfl,hrel⟩:=hrel
    have HR:=hQ hrel
    clear hrel
    by_cases hlt:k < s.size
    ·by_cases h10:s[k].toNat = 10
     ·have h10':((s[k].toNat:Int) == 10) = true:=by simp [h10]
      have h35':((s[k].toNat:Int) == 35) = false:=by simp [h10]
      have H10:=hQ h10
      clear h10
      go_wp2
      go_round
      case rel=>exact ⟨k + 1,false,by omega,by go_num,rfl,by have:=HR.out.next hlt;rwa [if_pos H10.out] at this⟩
      case measure=>simp [intOf];omega
     ·have h10':((s[k].toNat:Int) == 10) = false:=by simp;omega
      have H10:=hQ h10
      clear h10
      by_cases h35:s[k].toNat = 35
      ·have h35':((s[k].toNat:Int) == 35) = true:=by simp [h35]
       have H35:=hQ h35
       clear h35
       go_wp2
       go_round
       case rel=>exact ⟨k + 1,true,by omega,by go_num,rfl,by have:=HR.out.next hlt;rwa [if_neg H10.out,if_pos H35.out] at this⟩
       case measure=>simp [intOf];omega
      ·have h35':((s[k].toNat:Int) == 35) = false:=by simp;omega
       have H35:=hQ h35
       clear h35
       go_wp2
       go_round
       case rel=>exact ⟨k + 1,o,by omega,by go_num,rfl,by have:=HR.out.next hlt;rwa [if_neg H10.out,if_neg H35.out] at this⟩
       case measure=>simp [intOf];omega
    ·go_wp2
     go_ret
     exact ⟨Qah (by rw [HT.out,← openF_all HZ.out,HR.out.done hlt,HZ.out];simp),rfl⟩
  ·go_enter Tryz.func169,Tryz.ntmps169
   go_wp2_with (go_at_call 183;refine (lead_zero s _ HS.out).mono ?_;rintro e w' ⟨rfl,rfl⟩)
   go_ret
   exact ⟨Qah (by rw [HT.out,HZ.out];simp),rfl⟩
 ·have hz':((Qak s 0:Nat):Int) < (s.size:Int):=by omega
  have HZ:=hQ hz
  clear hz
  by_cases hb:0 ≤ badAt s 0
  all_goals
   go_enter Tryz.func169,Tryz.ntmps169
   go_wp2_with (go_at_call 183;refine (lead_zero s _ HS.out).mono ?_;rintro e w' ⟨rfl,rfl⟩)
   go_ret
   exact ⟨Qah (by rw [HT.out,beq_eq_false_iff_ne.2 HZ.out];rfl),rfl⟩
def dotG:List UInt8 → Nat
 | []=>0
 | c :: r=>if c = 46 then 0 else dotG r + 1
theorem dotG_at:(l:List UInt8) → (i:Nat) → (∀ j,j < i → ∀ c,l[j]? = some c → c ≠ 46) → l[i]? = some 46 → dotG l = i
 | [],i,_,h=>by simp at h
 | c :: r,0,_,h=>by simp at h;rw [dotG,if_pos h]
 | c :: r,i + 1,hn,h=>by
  rw [dotG,if_neg (hn 0 (by omega) c rfl),dotG_at r i (fun j hj c hc=>hn (j + 1) (by omega) c (by simpa using hc)) (by simpa using h)]
theorem dotG_none:(l:List UInt8) → (∀ (j:Nat) (c:UInt8),l[j]? = some c → c ≠ 46) → dotG l = l.length
 | [],_=>rfl
 | c :: r,hn=>by rw [dotG,if_neg (hn 0 c rfl),dotG_none r (fun j c hc=>hn (j + 1) c (by simpa using hc)),xD]
def dotP (s:ByteArray):Nat:=dotG s.data.toList
def Qfx (s:ByteArray):ByteArray × ByteArray × Bool:=if dotP s < s.size then (s.extract 0 (dotP s),s.extract (dotP s + 1) s.size,true) else (⟨#[]⟩,s,false)
def NoDot (s:ByteArray) (k:Nat):Prop:=∀ j,j < k → ∀ c,s.data.toList[j]? = some c → c ≠ 46
theorem nodot_more {s:ByteArray} {k:Nat} (h:NoDot s k) {hk:k < s.size} (hc:s[k] ≠ 46):NoDot s (k + 1):=fun j hj c hcj=>by
 by_cases e:j = k
 ·subst e
  have:s.data.toList[j]? = some s[j]:=by rw [xF (by simpa using hk)];rfl
  rw [this] at hcj
  injection hcj with hcj
  rw [← hcj]
  exact hc
 ·exact h j (by omega) c hcj
theorem dot_here {s:ByteArray} {k:Nat} (h:NoDot s k) {hk:k < s.size} (hc:s[k] = 46):dotP s = k:=dotG_at _ k h (by rw [xF (by simpa using hk)];exact congrArg some hc)
theorem dot_none {s:ByteArray} (h:NoDot s s.size):dotP s = s.size:=by
 have:=dotG_none s.data.toList (fun j c hc=>h j (by have:=(List.getElem?_eq_some_iff.1 hc).1;simpa using this) c hc)
 unfold dotP
 simpa using this
theorem divide_any (s:ByteArray) (w:World) (hs:s.size ≤ maxLen):Calls Tryz.prog 98 #[.string s] w fun e w'=>e = .returned (.tuple #[.string (Qfx s).1,.string (Qfx s).2.1,.bool (Qfx s).2.2]) ∧ ∃ n,w' = w.drewN n:=by
 unfold maxLen at hs
 go_enter Tryz.func98,Tryz.ntmps98
 go_wp2
 go_loop [8] (fun i=>∃ k:Nat,i = .int .i64 k ∧ k ≤ s.size ∧ Hid (NoDot s k)) (fun i=>s.size - (intOf i).toNat)
 case atStart=>exact ⟨0,rfl,Nat.zero_le _,hQ fun j hj=>absurd hj (by omega)⟩
 case round =>
  obtain ⟨k,rfl,hk,hn⟩:=hrel
  by_cases hlt:k < s.size
  ·have hk1:IntKind.i64.wrap ((k:Int) + 1) = (k:Int) + 1:=IntWalk.i64_in _ (by omega)
   by_cases hc:s[k] = 46
   ·have d1:((s[k].toNat:Int) == 46) = true:=by rw [hc];rfl
    have d2:(s[k].toNat:Int) = 46:=by rw [hc];rfl
    have HV:=hQ (show Qfx s = (s.extract 0 k,s.extract (k + 1) s.size,true) from by unfold Qfx;rw [dot_here hn.out hc,if_pos hlt])
    clear hn hc
    go_wp2
    go_quiet (fail)
    go_wp2
    go_ret3
    rw [HV.out]
    exact ⟨rfl,_,rfl⟩
   ·have d1:((s[k].toNat:Int) == 46) = false:=by
     rw [beq_eq_false_iff_ne]
     intro e
     exact hc (UInt8.toNat_inj.1 (by show s[k].toNat = 46;omega))
    have HN:=hQ (nodot_more hn.out hc)
    clear hn hc
    go_wp2
    go_round
    case rel=>exact ⟨k + 1,by go_num,by omega,HN⟩
    case measure=>simp [intOf];omega
  ·obtain rfl:k = s.size:=by omega
   have HV:=hQ (show Qfx s = (⟨#[]⟩,s,false) from by unfold Qfx;rw [dot_none hn.out,if_neg (Nat.lt_irrefl _)])
   clear hn
   go_wp2
   go_ret3
   rw [HV.out]
   exact ⟨rfl,0,rfl⟩
def dotI (s:ByteArray):Int:=if dotP s < s.size then (dotP s:Int) else -1
theorem dot_any (s:ByteArray) (w:World) (hs:s.size ≤ maxLen):Calls Tryz.prog 97 #[.string s] w fun e w'=>e = .returned (.int .i64 (dotI s)) ∧ ∃ n,w' = w.drewN n:=by
 unfold maxLen at hs
 go_enter Tryz.func97,Tryz.ntmps97
 go_wp2
 go_loop [3] (fun i=>∃ k:Nat,i = .int .i64 k ∧ k ≤ s.size ∧ Hid (NoDot s k)) (fun i=>s.size - (intOf i).toNat)
 case atStart=>exact ⟨0,rfl,Nat.zero_le _,hQ fun j hj=>absurd hj (by omega)⟩
 case round =>
  obtain ⟨k,rfl,hk,hn⟩:=hrel
  by_cases hlt:k < s.size
  ·have hk1:IntKind.i64.wrap ((k:Int) + 1) = (k:Int) + 1:=IntWalk.i64_in _ (by omega)
   by_cases hc:s[k] = 46
   ·have d1:((s[k].toNat:Int) == 46) = true:=by rw [hc];rfl
    have d2:(s[k].toNat:Int) = 46:=by rw [hc];rfl
    have HV:=hQ (show dotI s = (k:Int) from by unfold dotI;rw [dot_here hn.out hc,if_pos hlt])
    clear hn hc
    go_wp2
    first | go_ret3 | go_ret | skip
    rw [HV.out]
    exact ⟨rfl,0,rfl⟩
   ·have d1:((s[k].toNat:Int) == 46) = false:=by
     rw [beq_eq_false_iff_ne]
     intro e
     exact hc (UInt8.toNat_inj.1 (by show s[k].toNat = 46;omega))
    have HN:=hQ (nodot_more hn.out hc)
    clear hn hc
    go_wp2
    go_round
    case rel=>exact ⟨k + 1,by go_num,by omega,HN⟩
    case measure=>simp [intOf];omega
  ·obtain rfl:k = s.size:=by omega
   have HV:=hQ (show dotI s = -1 from by unfold dotI;rw [dot_none hn.out,if_neg (Nat.lt_irrefl _)])
   clear hn
   go_wp2
   first | go_ret3 | go_ret | skip
   rw [HV.out]
   exact ⟨rfl,0,rfl⟩
end Go.Proofs.YtnnfdbmanamfdaaGreat
