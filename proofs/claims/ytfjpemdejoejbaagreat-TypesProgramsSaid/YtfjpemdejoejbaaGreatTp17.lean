/- Part 17 -/
import Derived.Test.YtfjpemdejoejbaaGreatTp16
import Derived.IntWalk
import Derived.WalkSmall
set_option maxRecDepth 100000
set_option maxHeartbeats 4000000
namespace Go.Proofs.YtfjpemdejoejbaaGreat
open Go.Proofs.Tryz Go.RowKit
def LeadAt(s:yD)(i k:Nat):Prop:=i<=k/\k<=s.size/\(SkipAt s i k false\/(k=s.size/\Qan s i=k))
def InnerAt(s:yD)(i j k:Nat):Prop:=j<=k/\SkipAt s i k true/\(k=j->∃ h:k<s.size,s[k].toNat=35)
theorem Qqh{a b c d:Int}(h:a=b)(h':c=d):Ending.returned (.tuple #[.int .i64 a,.int .i64 c]) = .returned (.tuple #[.int .i64 b,.int .i64 d]):=by rw[h,h']
theorem LeadAt.state{s:yD}{i k:Nat}(h:LeadAt s i k)(hk:k<s.size):SkipAt s i k false:=by
 obtain⟨_,_,h | h⟩:=h
 ·exact h
 ·omega
theorem LeadAt.done{s:yD}{i k:Nat}(h:LeadAt s i k)(hk:¬ k<s.size):Qan s i=k/\Qju s i = -1:=by
 obtain⟨_,_,h|⟨rfl,h⟩⟩:=h
 ·exact⟨(h.done hk).1,Qi4 (h.done hk) (.inl rfl)⟩
 ·exact⟨h,Qi4 ⟨h,rfl⟩ (.inr hk)⟩
theorem LeadAt.white{s:yD}{i k:Nat}(h:LeadAt s i k)(hk:k<s.size)(hw:Qef s[k].toNat=true):LeadAt s i (k+1):=by
 have h1:=(h.state hk).white hk hw;exact⟨h1.1,h1.2.1,.inl h1⟩
theorem LeadAt.other{s:yD}{i k:Nat}(h:LeadAt s i k)(hk:k<s.size)(hw:Qef s[k].toNat=false)(hc:s[k].toNat≠35):Qan s i=k/\Qju s i = -1:=by
 have h1:=(h.state hk).other hk hw hc;exact⟨h1.1,Qi4 h1 (.inl rfl)⟩
theorem LeadAt.inner{s:yD}{i k:Nat}(h:LeadAt s i k)(hk:k<s.size)(hc:s[k].toNat=35):InnerAt s i k k :=
 ⟨xA _,(h.state hk).begun hk hc,fun _=>⟨hk,hc⟩⟩
theorem InnerAt.next{s:yD}{i j k:Nat}(h:InnerAt s i j k)(hk:k<s.size)(ha:Qas s[k].toNat=true)(hc:s[k].toNat≠10):InnerAt s i j (k+1):=by
 have h1:=h.2.1.inside hk ha;have h2:(s[k].toNat != 10)=true:=by simpa using hc
 rw[h2]at h1;have:=h.1
 exact⟨by omega,h1,by omega⟩
theorem InnerAt.bad{s:yD}{i j k:Nat}(h:InnerAt s i j k)(hk:k<s.size)(ha:Qas s[k].toNat=false):Qan s i=k/\Qju s i=k:=by
 have h1:=h.2.1.bad hk ha;exact⟨h1.1,Qq8 h1 hk⟩
theorem InnerAt.over{s:yD}{i j k:Nat}(h:InnerAt s i j k)(hk:¬ k<s.size):LeadAt s i k/\j<k:=by
 have h1:=h.2.1;refine⟨⟨h1.1,h1.2.1,.inr ⟨by have:=h1.2.1;omega,(h1.done hk).1⟩⟩,?_⟩
 rcases Nat.lt_or_ge j k with h2 | h2
 ·exact h2
 ·have:=h.1
  obtain⟨h3,_⟩:=h.2.2 (by omega);omega
theorem InnerAt.ended{s:yD}{i j k:Nat}(h:InnerAt s i j k)(hk:k<s.size)(hc:s[k].toNat=10):LeadAt s i k/\j<k:=by
 have h1:=h.2.1;refine⟨⟨h1.1,h1.2.1,.inl (h1.ended hk hc)⟩,?_⟩
 rcases Nat.lt_or_ge j k with h2 | h2
 ·exact h2
 ·have:=h.1
  obtain⟨_,h4⟩:=h.2.2 (by omega);omega
theorem Qvn(s:yD)(i:Nat)(w:World)(hi:i<=s.size)(hs:s.size<=maxLen) :
  Calls prog 167 #[.string s,.int .i64 i] w fun e w'=>e = .returned (.tuple #[.int .i64 (((Qan s i:Nat):Int)-(i:Int)),.int .i64 (Qju s i)])/\w=w':=by
 unfold maxLen at hs;have hst:=hQ (show LeadAt s i i from⟨xA _,hi,.inl (SkipAt.start s i hi)⟩);go_enter func167,ntmps167;go_wp2
 go_loop [6] (fun a=>∃ (k:Nat),i<=k/\k<=s.size/\a = .int .i64 k/\LeadAt s i k) (fun a=>s.size-(intOf a).toNat)
 case atStart=>exact⟨i,xA _,hi,rfl,hst.out⟩
 case round =>
  obtain⟨k,hik,hk,rfl,hrel⟩:=hrel;have HR:=hQ hrel;clear hrel hst
  by_cases hlt:k<s.size
  ·cases hw:Qef s[k].toNat
   ·by_cases hc:s[k].toNat=35
    ·have hc':((s[k].toNat:Int)==35)=true:=by simp[hc]
     have HC:=hQ hc;clear hc;go_wp2_with (first | (go_at_call 160;refine(Qa8 _ _).mono ?_;rintro e w'⟨rfl,rfl⟩) | (go_at_call 137;refine(Qdr _ _).mono ?_;rintro e w'⟨rfl,rfl⟩))
     clear hc' hw
     go_loop [6] (fun a=>∃ (k':Nat),i<=k'/\k'<=s.size/\a = .int .i64 k'/\InnerAt s i k k') (fun a=>s.size-(intOf a).toNat)
     case atStart=>exact⟨k,hik,hk,rfl,HR.out.inner hlt HC.out⟩
     case round =>
      obtain⟨k',hik',hk',rfl,hrel⟩:=hrel;have HI:=hQ hrel;clear hrel
      by_cases hlt':k'<s.size
      ·by_cases h10:s[k'].toNat=10
       ·have h10':((s[k'].toNat:Int) != 10)=false:=by simp[h10]
        have H10:=hQ h10;clear h10;go_wp2;have HO:=hQ (HI.out.ended hlt' H10.out)
        go_round
        case rel=>exact⟨k',hik',hk',rfl,HO.out.1⟩
        case measure=>have:=HO.out.2;simp[intOf];omega
       ·have h10':((s[k'].toNat:Int) != 10)=true:=by simp;omega
        have H10:=hQ h10;clear h10
        cases ha:Qas s[k'].toNat
        ·go_wp2_with (first | (go_at_call 160;refine(Qa8 _ _).mono ?_;rintro e w'⟨rfl,rfl⟩) | (go_at_call 137;refine(Qdr _ _).mono ?_;rintro e w'⟨rfl,rfl⟩))
         go_ret2
         obtain⟨h1,h2⟩:=HI.out.bad hlt' ha;exact⟨Qqh (by rw[h1]) (by rw[h2]),rfl⟩
        ·go_wp2_with (first | (go_at_call 160;refine(Qa8 _ _).mono ?_;rintro e w'⟨rfl,rfl⟩) | (go_at_call 137;refine(Qdr _ _).mono ?_;rintro e w'⟨rfl,rfl⟩))
         go_round
         case rel=>exact⟨k'+1,by omega,by omega,by go_num,HI.out.next hlt' ha H10.out⟩
         case measure=>simp[intOf];omega
      ·go_wp2;have HO:=hQ (HI.out.over hlt')
       go_round
       case rel=>exact⟨k',hik',hk',rfl,HO.out.1⟩
       case measure=>have:=HO.out.2;simp[intOf];omega
    ·have hc':((s[k].toNat:Int)==35)=false:=by simp;omega
     have HC:=hQ hc;clear hc;go_wp2_with (first | (go_at_call 160;refine(Qa8 _ _).mono ?_;rintro e w'⟨rfl,rfl⟩) | (go_at_call 137;refine(Qdr _ _).mono ?_;rintro e w'⟨rfl,rfl⟩))
     go_ret2
     obtain⟨h1,h2⟩:=HR.out.other hlt hw HC.out;exact⟨Qqh (by rw[h1]) (by rw[h2]),rfl⟩
   ·go_wp2_with (first | (go_at_call 160;refine(Qa8 _ _).mono ?_;rintro e w'⟨rfl,rfl⟩) | (go_at_call 137;refine(Qdr _ _).mono ?_;rintro e w'⟨rfl,rfl⟩))
    go_round
    case rel=>exact⟨k+1,by omega,by omega,by go_num,HR.out.white hlt hw⟩
    case measure=>simp[intOf];omega
  ·go_wp2
   go_ret2
   obtain⟨h1,h2⟩:=HR.out.done hlt;exact⟨Qqh (by rw[h1]) (by rw[h2]),rfl⟩
theorem Qnh(s:yD)(w:World)(hs:s.size<=maxLen) :
  Calls prog 167 #[.string s,.int .i64 0] w fun e w'=>e = .returned (.tuple #[.int .i64 ((Qan s 0:Nat):Int),.int .i64 (Qju s 0)])/\w=w':=by
 have h:=Qvn s 0 w (xZ _) hs
 simpa using h
theorem Za3{s:yD}(h:Qan s 0=s.size):Qq9 false (suf s 0)=Qc7 s 0:=by
 refine Qwv false (suf s 0) ?_;rw[Qb4];unfold Qan at h;omega
def OpenAt(s:yD)(k:Nat)(o:Bool):Prop:=k<=s.size/\Qq9 false (suf s 0)=Qq9 o (suf s k)
theorem OpenAt.next{s:yD}{k:Nat}{o:Bool}(h:OpenAt s k o)(hk:k<s.size):OpenAt s (k+1) (if s[k].toNat=10 then false else if s[k].toNat=35 then true else o):=by
 refine⟨by omega,?_⟩;rw[h.2,Qdd s k hk];rfl
theorem OpenAt.done{s:yD}{k:Nat}{o:Bool}(h:OpenAt s k o)(hk:¬ k<s.size):Qq9 false (suf s 0)=o:=by
 rw[h.2,Qle s k (by omega)];rfl
theorem Qni(s:yD)(fin:Bool)(w:World)(hs:s.size<=maxLen) :
  Calls prog 143 #[.string s,.bool fin] w fun e w'=>e = .returned (.bool (Qge s fin))/\w=w':=by
 have h1:=Qgp s 0 (xZ _);have HS:=hQ hs;unfold maxLen at hs;have HT:=hQ (show Qge s fin=((Qan s 0==s.size) && (fin || !Qc7 s 0)) from rfl)
 by_cases hz:Qan s 0=s.size
 ·have HZ:=hQ hz;have hb:Qju s 0 = -1:=Qi4 ⟨hz,rfl⟩ (.inr (by omega));have hz':((Qan s 0:Nat):Int)=(s.size:Int):=by omega
  clear hz
  cases fin
  ·go_enter func143,ntmps143;go_wp2_with (go_at_call 167;refine(Qnh s _ HS.out).mono ?_;rintro e w'⟨rfl,rfl⟩)
   go_loop [7,8] (fun a b=>∃ (k:Nat) (o:Bool),k<=s.size/\b = .int .i64 k/\a = .bool o/\OpenAt s k o) (fun _ b=>s.size-(intOf b).toNat)
   case atStart=>exact⟨0,false,xZ _,rfl,rfl,xZ _,rfl⟩
   case round =>
    obtain⟨k,o,hk,rfl,rfl,hrel⟩:=hrel;have HR:=hQ hrel;clear hrel
    by_cases hlt:k<s.size
    ·by_cases h10:s[k].toNat=10
     ·have h10':((s[k].toNat:Int)==10)=true:=by simp[h10]
      have h35':((s[k].toNat:Int)==35)=false:=by simp[h10]
      have H10:=hQ h10;clear h10;go_wp2
      go_round
      case rel=>exact⟨k+1,false,by omega,by go_num,rfl,by have:=HR.out.next hlt;rwa[xO H10.out]at this⟩
      case measure=>simp[intOf];omega
     ·have h10':((s[k].toNat:Int)==10)=false:=by simp;omega
      have H10:=hQ h10;clear h10
      by_cases h35:s[k].toNat=35
      ·have h35':((s[k].toNat:Int)==35)=true:=by simp[h35]
       have H35:=hQ h35;clear h35;go_wp2
       go_round
       case rel=>exact⟨k+1,true,by omega,by go_num,rfl,by have:=HR.out.next hlt;rwa[xN H10.out,xO H35.out]at this⟩
       case measure=>simp[intOf];omega
      ·have h35':((s[k].toNat:Int)==35)=false:=by simp;omega
       have H35:=hQ h35;clear h35;go_wp2
       go_round
       case rel=>exact⟨k+1,o,by omega,by go_num,rfl,by have:=HR.out.next hlt;rwa[xN H10.out,xN H35.out]at this⟩
       case measure=>simp[intOf];omega
    ·go_wp2;go_ret;exact⟨Qaj (by rw[HT.out,<-Za3 HZ.out,HR.out.done hlt,HZ.out];simp),rfl⟩
  ·go_enter func143,ntmps143;go_wp2_with (go_at_call 167;refine(Qnh s _ HS.out).mono ?_;rintro e w'⟨rfl,rfl⟩)
   go_ret;exact⟨Qaj (by rw[HT.out,HZ.out];simp),rfl⟩
 ·have hz':((Qan s 0:Nat):Int)<(s.size:Int):=by omega
  have HZ:=hQ hz;clear hz;by_cases hb:0<=Qju s 0
  all_goals
   go_enter func143,ntmps143;go_wp2_with (go_at_call 167;refine(Qnh s _ HS.out).mono ?_;rintro e w'⟨rfl,rfl⟩)
   go_ret;exact⟨Qaj (by rw[HT.out,beq_eq_false_iff_ne.2 HZ.out];rfl),rfl⟩
def Qq6:List UInt8->Nat
 | []=>0
 | c :: r=>if c=46 then 0 else Qq6 r+1
theorem Za4:(l:List UInt8)->(i:Nat)->(∀ j,j<i->∀ c,l[j]? = some c->c≠46)->l[i]? = some 46->Qq6 l=i
 | [],i,_,h=>by simp at h
 | c :: r,0,_,h=>by simp at h;rw[Qq6,xO h]
 | c :: r,i+1,hn,h=>by
  rw[Qq6,xN (hn 0 (by omega) c rfl),Za4 r i (fun j hj c hc=>hn (j+1) (by omega) c (by simpa using hc)) (by simpa using h)]
theorem Qry:(l:List UInt8)->(∀ (j:Nat) (c:UInt8),l[j]? = some c->c≠46)->Qq6 l=l.length
 | [],_=>rfl
 | c :: r,hn=>by rw[Qq6,xN (hn 0 c rfl),Qry r (fun j c hc=>hn (j+1) c (by simpa using hc)),xD]
def Qqi(s:yD):Nat:=Qq6 s.data.toList
def Qg5(s:yD):yD × yD × Bool:=if Qqi s<s.size then (s.extract 0 (Qqi s),s.extract (Qqi s+1) s.size,true) else (⟨#[]⟩,s,false)
def Qx4(s:yD)(k:Nat):Prop:=∀ j,j<k->∀ c,s.data.toList[j]? = some c->c≠46
theorem Qo1{s:yD}{k:Nat}(h:Qx4 s k){hk:k<s.size}(hc:s[k]≠46):Qx4 s (k+1):=fun j hj c hcj=>by
 by_cases e:j=k
 ·subst e;have:s.data.toList[j]? = some s[j]:=by rw[xF (by simpa using hk)];rfl
  rw[this]at hcj;injection hcj with hcj;rw[<-hcj];exact hc
 ·exact h j (by omega) c hcj
theorem Qvo{s:yD}{k:Nat}(h:Qx4 s k){hk:k<s.size}(hc:s[k] = 46):Qqi s=k:=Za4 _ k h (by rw[xF (by simpa using hk)];exact congrArg some hc)
theorem Qvp{s:yD}(h:Qx4 s s.size):Qqi s=s.size:=by
 have:=Qry s.data.toList (fun j c hc=>h j (by have:=(xP.1 hc).1;simpa using this) c hc)
 unfold Qqi
 simpa using this
theorem Qo2(s:yD)(w:World)(hs:s.size<=maxLen):Calls prog 136 #[.string s] w fun e w'=>e = .returned (.tuple #[.string (Qg5 s).1,.string (Qg5 s).2.1,.bool (Qg5 s).2.2])/\∃ n,w'=w.drewN n:=by
 unfold maxLen at hs;go_enter func136,ntmps136;go_wp2
 go_loop [8] (fun i=>∃ k:Nat,i = .int .i64 k/\k<=s.size/\Hid (Qx4 s k)) (fun i=>s.size-(intOf i).toNat)
 case atStart=>exact⟨0,rfl,xZ _,hQ fun j hj=>absurd hj (by omega)⟩
 case round =>
  obtain⟨k,rfl,hk,hn⟩:=hrel
  by_cases hlt:k<s.size
  ·have hk1:IntKind.i64.wrap ((k:Int)+1)=(k:Int)+1:=IntWalk.i64_in _ (by omega)
   by_cases hc:s[k] = 46
   ·have d1:((s[k].toNat:Int)==46)=true:=by rw[hc];rfl
    have d2:(s[k].toNat:Int)=46:=by rw[hc];rfl
    have HV:=hQ (show Qg5 s=(s.extract 0 k,s.extract (k+1) s.size,true) from by unfold Qg5;rw[Qvo hn.out hc,xO hlt]);clear hn hc;go_wp2
    go_quiet (fail)
    go_wp2;go_ret3;rw[HV.out];exact⟨rfl,_,rfl⟩
   ·have d1:((s[k].toNat:Int)==46)=false:=by
     rw[beq_eq_false_iff_ne];intro e;exact hc (UInt8.toNat_inj.1 (by show s[k].toNat=46;omega))
    have HN:=hQ (Qo1 hn.out hc);clear hn hc;go_wp2
    go_round
    case rel=>exact⟨k+1,by go_num,by omega,HN⟩
    case measure=>simp[intOf];omega
  ·obtain rfl:k=s.size:=by omega
   have HV:=hQ (show Qg5 s=(⟨#[]⟩,s,false) from by unfold Qg5;rw[Qvp hn.out,xN (Nat.lt_irrefl _)]);clear hn;go_wp2;go_ret3;rw[HV.out];exact⟨rfl,0,rfl⟩
def Qa9(ps:List Tr):Tr:=.mk 0 ⟨#[]⟩ [] ps
def Qqj:List Tr->yD->Nat
 | [],_=>0
 | t :: r,x=>if t.text=x then 0 else Qqj r x+1
def Qks(l:List Tr)(x:yD)(k:Nat):Prop:=∀ (j:Nat) (t:Tr),j<k->l[j]? = some t->t.text≠x
theorem Qgn{l:List Tr}{x:yD}{k:Nat}{t:Tr}(h:Qks l x k)(ht:l[k]? = some t)(hx:t.text≠x):Qks l x (k+1):=fun j u hj hu=>by
 by_cases e:j=k
 ·subst e;rw[ht]at hu;injection hu with hu;rw[<-hu];exact hx
 ·exact h j u (by omega) hu
theorem Qqk:(l:List Tr)->(x:yD)->(k:Nat)->(t:Tr)->Qks l x k->l[k]? = some t->t.text=x->Qqj l x=k
 | [],_,k,t,_,h,_=>by simp at h
 | a :: r,x,0,t,_,h,hx=>by simp at h;subst h;rw[Qqj,xO hx]
 | a :: r,x,k+1,t,hn,h,hx=>by
  rw[Qqj,xN (hn 0 a (by omega) rfl),Qqk r x k t (fun j u hj hu=>hn (j+1) u (by omega) (by simpa using hu)) (by simpa using h) hx]
theorem Qql:(l:List Tr)->(x:yD)->Qks l x l.length->Qqj l x=l.length
 | [],_,_=>rfl
 | a :: r,x,hn=>by
  rw[Qqj,xN (hn 0 a (by simp) rfl),Qql r x (fun j u hj hu=>hn (j+1) u (by simp;omega) (by simpa using hu)),xD]
def Qfa(ps:List Tr)(i:Nat)(x:yD):Int × Int × Bool:=if Qqj ((ps[i]?).getD noTr).kids x<((ps[i]?).getD noTr).kids.length then ((i:Int),(Qqj ((ps[i]?).getD noTr).kids x:Nat),true) else (0,0,false)
def Qbb(ps:List Tr)(m:Nat)(s:yD):Int × Int × Bool :=
 if (Qg5 s).2.2 then (if Qqj ps (Qg5 s).1<ps.length then Qfa ps (Qqj ps (Qg5 s).1) (Qg5 s).2.1 else (0,0,false)) else Qfa ps m (Qg5 s).2.1
theorem Qvr{ps:List Tr}{s:yD}{m k:Nat}{t:Tr}(hd:(Qg5 s).2.2=true)(hn:Qks ps (Qg5 s).1 k)(ht:ps[k]? = some t)(hx:t.text=(Qg5 s).1):Qbb ps m s=Qfa ps k (Qg5 s).2.1:=by
 unfold Qbb;rw[xO hd,Qqk _ _ _ t hn ht hx,xO (xP.1 ht).1]
theorem Qvs{ps:List Tr}{s:yD}{m:Nat}(hd:(Qg5 s).2.2=true)(hn:Qks ps (Qg5 s).1 ps.length):Qbb ps m s=(0,0,false):=by
 unfold Qbb;rw[xO hd,Qql _ _ hn,xN (Nat.lt_irrefl _)]
theorem Qkt{ps:List Tr}{i d:Nat}{x:yD}{t k:Tr}(ht:ps[i]? = some t)(hn:Qks t.kids x d)(hk:t.kids[d]? = some k)(hx:k.text=x):Qfa ps i x=((i:Int),(d:Int),true):=by
 unfold Qfa;rw[ht,Option.getD_some,Qqk _ _ _ k hn hk hx,xO (xP.1 hk).1]
theorem Qku{ps:List Tr}{i:Nat}{x:yD}{t:Tr}(ht:ps[i]? = some t)(hn:Qks t.kids x t.kids.length):Qfa ps i x=(0,0,false):=by
 unfold Qfa;rw[ht,Option.getD_some,Qql _ _ hn,xN (Nat.lt_irrefl _)]
theorem Qlm{x y:yD}(h:x=y):(x.toList==y.toList)=true:=by subst h;simp
theorem Qln{x y:yD}(h:x≠y):(x.toList==y.toList)=false:=by
 cases e:(x.toList==y.toList) with
 | false=>rfl
 | true=>exact absurd (Za5 e) h
theorem Za6{ps:List Tr}{i:Nat}{x:yD}(h:ps.length<=i):Qfa ps i x=(0,0,false):=by
 unfold Qfa;rw[List.getElem?_eq_none h,Option.getD_none,xN (by simp[noTr,Tr.kids,Qqj])]
theorem Qx6(S:Nat->Prop)(A:yE)(c:Nat)(ps:List Tr)(m:Int)(M:Nat)(s:yD)(w:World)(hp:TrAt S w (Qa9 ps) ⟨0,⟨#[]⟩,none,0,0,A,ps.length,c⟩)(hf:Qgm (Qa9 ps)=true)(hs:s.size<=maxLen)(hd:(Qg5 s).2.2=true) :
  Calls prog 88 #[.slice A ps.length c,.int .i64 m,.string s] w fun e w'=>e = .returned (.tuple #[.int .i64 (Qbb ps M s).1,.int .i64 (Qbb ps M s).2.1,.bool (Qbb ps M s).2.2])/\Below w.heap.size w w':=by
 have HP:=hQ hp;have HF:=hQ hf;have HD:=hQ hd;have hl:=(Qb2 hf).2.1;have hl':ps.length<=1900000000000:=hl;clear hp hf hl;obtain⟨x,y,z,hdv⟩:∃ x y z,Qg5 s=(x,y,z):=⟨_,_,_,rfl⟩;obtain rfl:z=true:=by rw[hdv]at hd;exact hd
 have HDV:=hQ hdv;have HC:=hQ (show ∀ w,Calls prog 136 #[.string s] w fun e w'=>e = .returned (.tuple #[.string x,.string y,.bool true])/\∃ n,w'=w.drewN n from fun w=>by have:=Qo2 s w hs;rw[hdv]at this;exact this);clear hd hdv hs;go_enter func88,ntmps88;go_wp2
 go_step3
 go_wp2_with (go_at_call 136;refine(HC.out _).mono ?_;rintro e w1⟨rfl,nq,rfl⟩)
 go_step3
 go_wp2
 go_loopw [24] (fun i wr=>∃ k:Nat,i = .int .i64 k/\k<=ps.length/\Hid (Qks ps x k)/\Below w.heap.size w wr) (fun i _=>ps.length-(intOf i).toNat)
 case atStart=>exact⟨0,rfl,xZ _,hQ fun j t hj=>absurd hj (by omega),below_drewN (xC _ _) _⟩
 case round =>
  obtain⟨k,rfl,hk,hn,hb⟩:=hrel;obtain⟨wo,hwo⟩:∃ w',w'=wr:=⟨_,rfl⟩;subst hwo;have HN:=hn;have HBR:=hQ hb;clear hn hb
  by_cases hlt:k<ps.length
  ·obtain⟨t,ht⟩:∃ t,ps[k]? = some t:=⟨_,xF hlt⟩;obtain⟨b,off,hka⟩:∃ b off,A=some ⟨b,off,none⟩:=HP.out.addr.resolve_left (by show ¬ ps.length=0;omega);subst hka;obtain⟨u,c0,c1,c2,c3,hu⟩:=(HP.out.keep HBR.out).at rfl (show(Qa9 ps).kids[k]? = some t from ht);have HU:=hQ hu;have HTX:=hQ hu.kl.2.2.2;have HK:=hQ ht;have cl:=xK wo _ c0;have hk0:(0:Int)<=(k:Int):=by omega
   have hk1:(k:Int)<(ps.length:Int):=by omega
   have hk2:(k:Int)+1<=1900000000001:=by omega
   have HW:=hQ (HBR.out.trans (((xC wo.heap.size wo).alloc (xA _) (trO u)).mono HBR.out.size));clear hu ht
   by_cases hx:u.text=x
   ·have d1:=Qlm hx;have HX:=hQ (show t.text=x from HTX.out ▸ hx);clear hx;have hl2:t.kids.length<=1900000000000:=(Qb2 ((Qb2 HF.out).2.2 k t HK.out)).2.1;have hkl:u.kl=t.kids.length:=HU.out.kl.1;have HLK:=hQ (show Qbb ps M s=Qfa ps k y from by have:=Qvr (m:=M) HD.out (by rw[HDV.out];exact HN.out) HK.out (by rw[HDV.out];exact HX.out);rw[this,HDV.out]);go_wp2
    go_loopw [48] (fun i wq=>∃ d:Nat,i = .int .i64 d/\d<=t.kids.length/\Hid (Qks t.kids y d)/\Below wo.heap.size wo wq) (fun i _=>t.kids.length-(intOf i).toNat)
    case atStart=>exact⟨0,rfl,xZ _,hQ fun j t hj=>absurd hj (by omega),(xC wo.heap.size wo).alloc (xA _) _⟩
    case round =>
     obtain⟨d,rfl,hd,hm,hb⟩:=hrel;have HM:=hm;have HBQ:=hQ hb;clear hm hb
     by_cases hdl:d<t.kids.length
     ·obtain⟨q,hq⟩:∃ q,t.kids[d]? = some q:=⟨_,xF hdl⟩;obtain⟨b2,off2,hua⟩:∃ b off,u.ka=some ⟨b,off,none⟩:=HU.out.addr.resolve_left (by omega);obtain⟨v,e0,e1,e2,e3,hv⟩:=(HU.out.keep HBQ.out).at hua hq;have HVX:=hQ hv.kl.2.2.2;have HQ:=hQ hq;have el:=xK wr _ e0;have hd0:(0:Int)<=(d:Int):=by omega
      have hd1:(d:Int)<(t.kids.length:Int):=by omega
      have hd2:(d:Int)+1<=1900000000001:=by omega
      have HW2:=hQ (show ∀ o,Below wo.heap.size wo (wr.alloc o) from fun o=>HBQ.out.trans (((xC wr.heap.size wr).alloc (xA _) o).mono HBQ.out.size));clear hv hq
      by_cases hy:v.text=y
      ·have d2:=Qlm hy;have HLR:=hQ (show Qbb ps M s=((k:Int),(d:Int),true) from HLK.out.trans (Qkt HK.out HM.out HQ.out (HVX.out ▸ hy)));clear hy;go_wp2;refine bodyPost_ret (v:=.tuple #[.int .i64 k,.int .i64 d,.bool true]) (by simp[results,results88,go_sem, *]) rfl ?_;rw[HLR.out];exact⟨rfl,HBR.out.trans ((HW2.out _).mono HBR.out.size)⟩
      ·have d2:=Qln hy;have HY:=hQ (Qgn HM.out HQ.out (show q.text≠y from HVX.out ▸ hy));clear hy;go_wp2;go_roundw
       case measure=>first | (simp[intOf];done) | (simp[intOf];omega)
       case rel=>exact⟨d+1,by go_num,by omega,HY,HW2.out _⟩
     ·obtain rfl:d=t.kids.length:=by omega
      have HLR:=hQ (show Qbb ps M s=(0,0,false) from HLK.out.trans (Qku HK.out HM.out));go_wp2
      try rw[Exit.noGoto_ret]
      go_ret3;rw[HLR.out];exact⟨rfl,yC HBR.out HBQ.out⟩
   ·have d1:=Qln hx;have HX:=hQ (Qgn HN.out HK.out (show t.text≠x from HTX.out ▸ hx));clear hx;go_wp2;go_roundw
    case measure=>first | (simp[intOf];done) | (simp[intOf];omega)
    case rel=>exact⟨k+1,by go_num,by omega,HX,HW.out⟩
  ·obtain rfl:k=ps.length:=by omega
   have HV:=hQ (show Qbb ps M s=(0,0,false) from Qvs HD.out (by rw[HDV.out];exact HN.out));go_wp2
   try rw[Exit.noGoto_ret]
   go_ret3;rw[HV.out];exact⟨rfl,HBR.out⟩
theorem Qt7(S:Nat->Prop)(A:yE)(c:Nat)(ps:List Tr)(M:Nat)(s:yD)(w:World)(hp:TrAt S w (Qa9 ps) ⟨0,⟨#[]⟩,none,0,0,A,ps.length,c⟩)(hf:Qgm (Qa9 ps)=true)(hs:s.size<=maxLen)(hd:(Qg5 s).2.2=false) :
  Calls prog 88 #[.slice A ps.length c,.int .i64 M,.string s] w fun e w'=>e = .returned (.tuple #[.int .i64 (Qbb ps M s).1,.int .i64 (Qbb ps M s).2.1,.bool (Qbb ps M s).2.2])/\Below w.heap.size w w':=by
 have HP:=hQ hp;have HF:=hQ hf;have HD:=hQ hd;have hl:=(Qb2 hf).2.1;have hl':ps.length<=1900000000000:=hl;clear hp hf hl;obtain⟨x,y,z,hdv⟩:∃ x y z,Qg5 s=(x,y,z):=⟨_,_,_,rfl⟩;obtain rfl:z=false:=by rw[hdv]at hd;exact hd
 have HDV:=hQ hdv;have HC:=hQ (show ∀ w,Calls prog 136 #[.string s] w fun e w'=>e = .returned (.tuple #[.string x,.string y,.bool false])/\∃ n,w'=w.drewN n from fun w=>by have:=Qo2 s w hs;rw[hdv]at this;exact this);clear hd hdv hs;go_enter func88,ntmps88;go_wp2
 go_step3
 go_wp2_with (go_at_call 136;refine(HC.out _).mono ?_;rintro e w1⟨rfl,nq,rfl⟩)
 go_step3
 go_wp2
 go_loopw [24] (fun i wr=>∃ k:Nat,i = .int .i64 k/\k<=ps.length/\k<=M/\Below w.heap.size w wr) (fun i _=>ps.length-(intOf i).toNat)
 case atStart=>exact⟨0,rfl,xZ _,xZ _,below_drewN (xC _ _) _⟩
 case round =>
  obtain⟨k,rfl,hk,hn,hb⟩:=hrel;obtain⟨wo,hwo⟩:∃ w',w'=wr:=⟨_,rfl⟩;subst hwo;have HN:=hQ hn;have HBR:=hQ hb;clear hb
  by_cases hlt:k<ps.length
  ·obtain⟨t,ht⟩:∃ t,ps[k]? = some t:=⟨_,xF hlt⟩;obtain⟨b,off,hka⟩:∃ b off,A=some ⟨b,off,none⟩:=HP.out.addr.resolve_left (by show ¬ ps.length=0;omega);subst hka;obtain⟨u,c0,c1,c2,c3,hu⟩:=(HP.out.keep HBR.out).at rfl (show(Qa9 ps).kids[k]? = some t from ht);have HU:=hQ hu;have HTX:=hQ hu.kl.2.2.2;have HK:=hQ ht;have cl:=xK wo _ c0;have hk0:(0:Int)<=(k:Int):=by omega
   have hk1:(k:Int)<(ps.length:Int):=by omega
   have hk2:(k:Int)+1<=1900000000001:=by omega
   have HW:=hQ (HBR.out.trans (((xC wo.heap.size wo).alloc (xA _) (trO u)).mono HBR.out.size));clear hu ht
   by_cases hx:k=M
   ·have HX:=hQ hx;subst hx;have hl2:t.kids.length<=1900000000000:=(Qb2 ((Qb2 HF.out).2.2 k t HK.out)).2.1;have hkl:u.kl=t.kids.length:=HU.out.kl.1;have HLK:=hQ (show Qbb ps k s=Qfa ps k y from by unfold Qbb;rw[HDV.out];rfl);go_wp2
    go_loopw [48] (fun i wq=>∃ d:Nat,i = .int .i64 d/\d<=t.kids.length/\Hid (Qks t.kids y d)/\Below wo.heap.size wo wq) (fun i _=>t.kids.length-(intOf i).toNat)
    case atStart=>exact⟨0,rfl,xZ _,hQ fun j t hj=>absurd hj (by omega),(xC wo.heap.size wo).alloc (xA _) _⟩
    case round =>
     obtain⟨d,rfl,hd,hm,hb⟩:=hrel;have HM:=hm;have HBQ:=hQ hb;clear hm hb
     by_cases hdl:d<t.kids.length
     ·obtain⟨q,hq⟩:∃ q,t.kids[d]? = some q:=⟨_,xF hdl⟩;obtain⟨b2,off2,hua⟩:∃ b off,u.ka=some ⟨b,off,none⟩:=HU.out.addr.resolve_left (by omega);obtain⟨v,e0,e1,e2,e3,hv⟩:=(HU.out.keep HBQ.out).at hua hq;have HVX:=hQ hv.kl.2.2.2;have HQ:=hQ hq;have el:=xK wr _ e0;have hd0:(0:Int)<=(d:Int):=by omega
      have hd1:(d:Int)<(t.kids.length:Int):=by omega
      have hd2:(d:Int)+1<=1900000000001:=by omega
      have HW2:=hQ (show ∀ o,Below wo.heap.size wo (wr.alloc o) from fun o=>HBQ.out.trans (((xC wr.heap.size wr).alloc (xA _) o).mono HBQ.out.size));clear hv hq
      by_cases hy:v.text=y
      ·have d2:=Qlm hy;have HLR:=hQ (show Qbb ps k s=((k:Int),(d:Int),true) from HLK.out.trans (Qkt HK.out HM.out HQ.out (HVX.out ▸ hy)));clear hy;go_wp2;refine bodyPost_ret (v:=.tuple #[.int .i64 k,.int .i64 d,.bool true]) (by simp[results,results88,go_sem, *]) rfl ?_;rw[HLR.out];exact⟨rfl,HBR.out.trans ((HW2.out _).mono HBR.out.size)⟩
      ·have d2:=Qln hy;have HY:=hQ (Qgn HM.out HQ.out (show q.text≠y from HVX.out ▸ hy));clear hy;go_wp2;go_roundw
       case measure=>first | (simp[intOf];done) | (simp[intOf];omega)
       case rel=>exact⟨d+1,by go_num,by omega,HY,HW2.out _⟩
     ·obtain rfl:d=t.kids.length:=by omega
      have HLR:=hQ (show Qbb ps k s=(0,0,false) from HLK.out.trans (Qku HK.out HM.out));go_wp2
      try rw[Exit.noGoto_ret]
      go_ret3;rw[HLR.out];exact⟨rfl,yC HBR.out HBQ.out⟩
   ·have HX:=hQ (show k+1<=M from by omega);have hxi:¬ (k:Int)=(M:Int):=by omega
    have q1:=Qcr hxi;have q2:((k:Int) != (M:Int))=true:=by rw[bne,q1];rfl
    have q3:(decide ((k:Int)=(M:Int)))=false:=xR hxi;clear hn;go_wp2;go_roundw
    case measure=>first | (simp[intOf];done) | (simp[intOf];omega)
    case rel=>exact⟨k+1,by go_num,by omega,HX.out,HW.out⟩
  ·obtain rfl:k=ps.length:=by omega
   have HV:=hQ (show Qbb ps M s=(0,0,false) from by unfold Qbb;rw[HDV.out];exact Za6 HN.out);go_wp2
   try rw[Exit.noGoto_ret]
   go_ret3;rw[HV.out];exact⟨rfl,HBR.out⟩
def Zha(s:yD):Int:=if Qqi s<s.size then (Qqi s:Int) else -1
theorem Zcw(s:yD)(w:World)(hs:s.size<=maxLen):Calls prog 65 #[.string s] w fun e w'=>e = .returned (.int .i64 (Zha s))/\∃ n,w'=w.drewN n:=by
 unfold maxLen at hs;go_enter func65,ntmps65;go_wp2
 go_loop [3] (fun i=>∃ k:Nat,i = .int .i64 k/\k<=s.size/\Hid (Qx4 s k)) (fun i=>s.size-(intOf i).toNat)
 case atStart=>exact⟨0,rfl,xZ _,hQ fun j hj=>absurd hj (by omega)⟩
 case round =>
  obtain⟨k,rfl,hk,hn⟩:=hrel
  by_cases hlt:k<s.size
  ·have hk1:IntKind.i64.wrap ((k:Int)+1)=(k:Int)+1:=IntWalk.i64_in _ (by omega)
   by_cases hc:s[k] = 46
   ·have d1:((s[k].toNat:Int)==46)=true:=by rw[hc];rfl
    have d2:(s[k].toNat:Int)=46:=by rw[hc];rfl
    have HV:=hQ (show Zha s=(k:Int) from by unfold Zha;rw[Qvo hn.out hc,xO hlt]);clear hn hc;go_wp2
    first | go_ret3 | go_ret | skip
    rw[HV.out];exact⟨rfl,0,rfl⟩
   ·have d1:((s[k].toNat:Int)==46)=false:=by
     rw[beq_eq_false_iff_ne];intro e;exact hc (UInt8.toNat_inj.1 (by show s[k].toNat=46;omega))
    have HN:=hQ (Qo1 hn.out hc);clear hn hc;go_wp2
    go_round
    case rel=>exact⟨k+1,by go_num,by omega,HN⟩
    case measure=>simp[intOf];omega
  ·obtain rfl:k=s.size:=by omega
   have HV:=hQ (show Zha s = -1 from by unfold Zha;rw[Qvp hn.out,xN (Nat.lt_irrefl _)]);clear hn;go_wp2
   first | go_ret3 | go_ret | skip
   rw[HV.out];exact⟨rfl,0,rfl⟩
end Go.Proofs.YtfjpemdejoejbaaGreat
