/- Part 15 -/
import Derived.Test.YtjidpkcjpgdafaaGreatSe12
import Derived.Test.YtjidpkcjpgdafaaGreatSe13
import Derived.Test.YtjidpkcjpgdafaaGreatSe14
set_option maxRecDepth 100000
set_option maxHeartbeats 4000000
namespace Go.Proofs.YtjidpkcjpgdafaaGreat
open Go.RowKit
theorem TrAt.keep {S:Nat→Prop} {w w':World} {t:Tr} {v:TV} (h:TrAt S w t v) (hb:Below w.heap.size w w'):TrAt S w' t v:=TrAt.move (fun _ h=>h) (fun k _ hlt=>hb.block k hlt) t v h
theorem TrAt.kid {S:Nat→Prop} {w:World} {t:Tr} {v:TV} (h:TrAt S w t v) {j:Nat} {k:Tr} (hk:t.kids[j]? = some k) :
  v.kl=t.kids.length∧∃ b off,v.ka=some ⟨b,off,none⟩∧S b∧∃ u:TV,w.cell? ⟨b,off+j*4,none⟩=some (.int .i64 u.kind)∧w.cell? ⟨b,off+j*4+1,none⟩=some (.string u.text)∧w.cell? ⟨b,off+j*4+2,none⟩=some (.slice u.la u.ll u.lc)∧w.cell? ⟨b,off+j*4+3,none⟩=some (.slice u.ka u.kl u.kc)∧TrAt S w k u:=by
 cases t with
 | mk kd tx ls ks =>
  unfold TrAt at h;obtain ⟨_,_,_,h4,_,h6,_⟩:=h;obtain ⟨b,off,hA,hb,hc⟩:=h6 (by intro e;rw [show (Tr.mk kd tx ls ks).kids=ks from rfl,e] at hk;simp at hk);exact ⟨h4,b,off,hA,hb,TrsAt.get ks off hc j k hk⟩
theorem TrAt.addr {S:Nat→Prop} {w:World} {t:Tr} {v:TV} (h:TrAt S w t v):t.kids.length=0∨∃ b off,v.ka=some ⟨b,off,none⟩:=by
 cases t with
 | mk kd tx ls ks =>
  unfold TrAt at h;cases ks with
  | nil=>exact .inl rfl
  | cons a r =>
   obtain ⟨b,off,hA,_⟩:=h.2.2.2.2.2.1 (by simp);exact .inr ⟨b,off,hA⟩
theorem TrAt.at {S:Nat→Prop} {w:World} {t:Tr} {v:TV} {b off:Nat} (h:TrAt S w t v) (hA:v.ka=some ⟨b,off,none⟩) {j:Nat} {k:Tr} (hk:t.kids[j]? = some k) :
  ∃ u:TV,w.cell? ⟨b,off+j*4,none⟩=some (.int .i64 u.kind)∧w.cell? ⟨b,off+j*4+1,none⟩=some (.string u.text)∧w.cell? ⟨b,off+j*4+2,none⟩=some (.slice u.la u.ll u.lc)∧w.cell? ⟨b,off+j*4+3,none⟩=some (.slice u.ka u.kl u.kc)∧TrAt S w k u:=by
 obtain ⟨_,b',off',hA',_,u,hu⟩:=h.kid hk;rw [hA] at hA';injection hA' with e;injection e with e1 e2 _;subst e1 e2;exact ⟨u,hu⟩
theorem TrAt.kl {S:Nat→Prop} {w:World} {t:Tr} {v:TV} (h:TrAt S w t v):v.kl=t.kids.length∧v.ll=t.leads.length∧v.kind=t.kind∧v.text=t.text:=by
 cases t with
 | mk kd tx ls ks =>
  unfold TrAt at h;exact ⟨h.2.2.2.1,h.2.2.1,h.1,h.2.1⟩
theorem TrAt.caps {S:Nat→Prop} {w:World} {t:Tr} {v:TV} (h:TrAt S w t v):v.ll≤v.lc∧v.kl≤v.kc:=by
 cases t with
 | mk kd tx ls ks =>
  unfold TrAt at h;exact h.2.2.2.2.2.2
theorem Qla (t:Tr) (n:Nat):Qdm t (n+1)=Qe8 t.kids n:=by
 cases t with
 | mk kd tx ls ks=>rw [Qdm];rfl
theorem Qqk (t:Tr):Qdm t 0=false:=by
 cases t with
 | mk kd tx ls ks=>rw [Qdm]
theorem Qvk (l:List Tr) (n j:Nat) (k:Tr) (hk:l[j]? = some k):Qe8 (l.drop j) n=(Qdm k n && Qe8 (l.drop (j+1)) n):=by
 obtain ⟨hj,he⟩:=xP.1 hk;rw [List.drop_eq_getElem_cons hj,he,Qe8]
theorem Qmi (l:List Tr) (n j:Nat) (h:l.length≤j):Qe8 (l.drop j) n=true:=by
 rw [List.drop_eq_nil_of_le h,Qe8]
mutual
def Qcp:Tr→Bool
 | .mk _ _ ls ks=>decide (ls.length≤140737488355328) && decide (ks.length≤140737488355328) && Qdw ks
def Qdw:List Tr→Bool
 | []=>true
 | t :: r=>Qcp t && Qdw r
end
theorem Qn9:(l:List Tr)→(j:Nat)→(k:Tr)→Qdw l=true→l[j]? = some k→Qcp k=true
 | [],j,k,_,h=>by simp at h
 | a :: r,j,k,hs,h=>by
  unfold Qdw at hs;rw [Bool.and_eq_true] at hs;cases j with
  | zero=>simp at h;subst h;exact hs.1
  | succ j=>exact Qn9 r j k hs.2 (by simpa using h)
theorem Qfj {t:Tr} (h:Qcp t=true):t.leads.length≤140737488355328∧t.kids.length≤140737488355328∧∀ (j:Nat) (k:Tr),t.kids[j]? = some k→Qcp k=true:=by
 cases t with
 | mk kd tx ls ks =>
  unfold Qcp at h;simp only [Bool.and_eq_true,decide_eq_true_eq] at h;exact ⟨h.1.1,h.1.2,fun j k hk=>Qn9 ks j k h.2 hk⟩
theorem Qvl (n:Nat):∀ (S:Nat→Prop) (t:Tr) (v:TV) (w:World),n≤60→TrAt S w t v→Qcp t=true →
  Calls Tryz.prog 79 #[.agg #[.int .i64 v.kind,.string v.text,.slice v.la v.ll v.lc,.slice v.ka v.kl v.kc],.int .i64 n] w fun e w'=>e = .returned (.bool (Qdm t n))∧Below w.heap.size w w':=by
 induction n with
 | zero =>
  intro S t v w _ _ _;have HR:=hQ (Qqk t)
  go_enter Tryz.func79,Tryz.ntmps79
  go_wp2
  go_ret
  exact ⟨by rw [HR.out];rfl,(xC _ _).alloc (xA _) _⟩
 | succ n ih =>
  intro S t v w hn h hs;obtain ⟨_,hk1,hk2⟩:=Qfj hs;have HK2:=hQ hk2;have HIH:=hQ ih;have hkl:=h.kl.1;have hadr:=h.addr;obtain ⟨vk,vx,vla,vll,vlc,vka,vkl,vkc⟩:=v;simp only at hkl hadr;subst hkl;have HN:=hQ (show n≤60 from by omega);have hn0:((n:Int)+1==0)=false:=Qcn (by omega);have hn60:(n:Int)≤60:=by omega
  have hnw:(n:Int)+1-1=(n:Int):=by omega
  have HT:=hQ h;clear h hs hk2 ih hn
  rcases hadr with h0|⟨b,off,rfl⟩
  ·have HKL:=hQ h0;clear h0
   go_enter Tryz.func79,Tryz.ntmps79
   go_wp2
   go_loopg [12] t.kids.length (fun g u12 wr=>∃ j:Nat,u12 = .int .i64 j∧j+g=t.kids.length∧Below w.heap.size w wr∧Qdm t (n+1)=Qe8 (t.kids.drop j) n)
   case atStart=>exact ⟨0,rfl,by omega,(xC _ _).alloc (xA _) _,Qla t n⟩
   case round =>
    obtain ⟨j,rfl,hj,hb,hw⟩:=hrel;have HB:=hQ hb;have HJ:=hQ hj;have HW:=hQ hw;clear hj hb hw;have hlt:¬ j<t.kids.length:=by have:=HKL.out;omega
    have HR:=hQ (HW.out.trans (Qmi t.kids n j (by omega)))
    go_wp2
    go_ret
    exact ⟨by rw [HR.out];rfl,HB.out⟩
  ·skip
   go_enter Tryz.func79,Tryz.ntmps79
   go_wp2
   go_loopg [12] t.kids.length (fun g u12 wr=>∃ j:Nat,u12 = .int .i64 j∧j+g=t.kids.length∧Below w.heap.size w wr∧Qdm t (n+1)=Qe8 (t.kids.drop j) n)
   case atStart=>exact ⟨0,rfl,by omega,(xC _ _).alloc (xA _) _,Qla t n⟩
   case round =>
    obtain ⟨j,rfl,hj,hb,hw⟩:=hrel;have HB:=hQ hb;have HJ:=hQ hj;have HW:=hQ hw;clear hj hb hw
    by_cases hlt:j<t.kids.length
    ·obtain ⟨k,hk⟩:∃ k,t.kids[j]? = some k:=⟨_,xF hlt⟩;obtain ⟨u,c0,c1,c2,c3,hu⟩:=(HT.out.keep HB.out).at rfl hk;have HU:=hQ hu;have HSK:=hQ (HK2.out j k hk);have HLT:=hQ hlt;have HAT:=hQ (HW.out.trans (Qvk t.kids n j k hk));have hj0:(0:Int)≤(j:Int):=by omega
     have hj1:(j:Int)<(t.kids.length:Int):=by omega
     have hj2:(j:Int)+1≤140737488355328:=by omega
     clear hk hu
     cases hwk:Qdm k n
     ·have HR:=hQ (show Qdm t (n+1)=false from by rw [HAT.out,hwk];rfl);go_wp2_with (go_at_call 79;refine (HIH.out S k u _ HN.out (HU.out.keep ((xC _ _).alloc (xA _) _)) HSK.out).mono ?_;rintro e w2 ⟨rfl,hb2⟩;have HB2:=hQ ((HB.out.alloc HB.out.size (.cells #[.int .i64 u.kind,.string u.text,.slice u.la u.ll u.lc,.slice u.ka u.kl u.kc] 29)).trans (hb2.mono (by have:=HB.out.size;simp;omega)));clear hb2)
      go_ret
      exact ⟨by rw [HR.out];rfl,HB2.out⟩
     ·have HR:=hQ (show Qdm t (n+1)=Qe8 (t.kids.drop (j+1)) n from by rw [HAT.out,hwk,Bool.true_and]);go_wp2_with (go_at_call 79;refine (HIH.out S k u _ HN.out (HU.out.keep ((xC _ _).alloc (xA _) _)) HSK.out).mono ?_;rintro e w2 ⟨rfl,hb2⟩;have HB2:=hQ ((HB.out.alloc HB.out.size (.cells #[.int .i64 u.kind,.string u.text,.slice u.la u.ll u.lc,.slice u.ka u.kl u.kc] 29)).trans (hb2.mono (by have:=HB.out.size;simp;omega)));clear hb2)
      go_roundg (gk-1)
      case measure=>have:=HJ.out;have:=HLT.out;omega
      case rel=>exact ⟨j+1,by go_num,by have:=HJ.out;have:=HLT.out;omega,HB2.out,HR.out⟩
    ·have HR:=hQ (HW.out.trans (Qmi t.kids n j (by omega)))
     go_wp2
     go_ret
     exact ⟨by rw [HR.out];rfl,HB.out⟩
end Go.Proofs.YtjidpkcjpgdafaaGreat
namespace Go.Proofs.YtjidpkcjpgdafaaGreat
def Qeo:List Part→Int→List Int
 | [],_=>[]
 | x :: r,n=>List.replicate (Qbx x n).toNat x.kids ++ Qeo r n
mutual
def Qap:Tr→Bool
 | .mk kd x _ ks=>(Qb1 (Qae kd) ks.length).2 && Qbq (Qae kd) x && Qec ks (Qeo (Qae kd) (Qb1 (Qae kd) ks.length).1)
def Qec:List Tr→List Int→Bool
 | [],_=>true
 | _ :: _,[]=>true
 | k :: r,s :: ss=>Qfe s k.kind && Qap k && Qec r ss
end
theorem Qkm (t:Tr):Qap t=((Qb1 (Qae t.kind) t.kids.length).2 && Qbq (Qae t.kind) t.text && Qec t.kids (Qeo (Qae t.kind) (Qb1 (Qae t.kind) t.kids.length).1)):=by
 cases t with
 | mk kd x ls ks=>rw [Qap];rfl
theorem Qlb (k:Tr) (r:List Tr) (s:Int) (ss:List Int):Qec (k :: r) (s :: ss)=(Qfe s k.kind && Qap k && Qec r ss):=by rw [Qec]
theorem Qjb (ss:List Int):Qec [] ss=true:=by rw [Qec]
def Qpj:List Part→Nat
 | []=>0
 | x :: r=>(if x.series then 0 else if x.kids≠0 then 1 else 0)+Qpj r
def Qgl:List Part→Nat
 | []=>0
 | x :: r=>(if x.series then 1 else 0)+Qgl r
def Qtu:List Part→Int→Int
 | [],_=>0
 | x :: r,n=>Qbx x n+Qtu r n
theorem Qyd (l:List Part) (n:Int):Qtu l n=Qpj l+Qgl l*n:=by
 induction l with
 | nil=>simp [Qtu,Qpj,Qgl]
 | cons x r ih =>
  rw [Qtu,Qpj,Qgl,ih];unfold Qbx
  cases hs:x.series
  ·by_cases hk:x.kids≠0
   ·rw [xN (by decide),xO hk,xN (by decide),xO hk,xN (by decide),Nat.zero_add];omega
   ·rw [xN (by decide),xN hk,xN (by decide),xN hk,xN (by decide),Nat.zero_add,Nat.zero_add];omega
  ·rw [xO rfl,xO rfl,xO rfl];rw [show ((1+Qgl r:Nat):Int)=1+(Qgl r:Int) from by omega,Int.add_mul,Int.one_mul];omega
theorem Qkn (l:List Part):∀ a b k,(Qd2 l a b k).2.2=k-Qpj l:=by
 induction l with
 | nil=>intro a b k;simp [Qd2,Qpj]
 | cons x r ih =>
  intro a b k;rw [Qd2,Qpj]
  cases hs:x.series
  ·by_cases hk:x.kids≠0
   ·rw [xN (by decide),xO hk,ih,xN (by decide),xO hk];omega
   ·rw [xN (by decide),xN hk,ih,xN (by decide),xN hk];omega
  ·rw [xO rfl,ih,xO rfl];omega
theorem Qvm (l:List Part) (h:Qgl l=0):∀ a b k,(Qd2 l a b k).1=a∧(Qd2 l a b k).2.1=b:=by
 induction l with
 | nil=>intro a b k;exact ⟨rfl,rfl⟩
 | cons x r ih =>
  intro a b k;rw [Qgl] at h;rw [Qd2]
  cases hs:x.series
  ·rw [hs] at h;have hr:=ih (by simpa using h)
   by_cases hk:x.kids≠0
   ·rw [xN (by decide),xO hk];exact hr _ _ _
   ·rw [xN (by decide),xN hk];exact hr _ _ _
  ·rw [hs] at h;simp at h
theorem Qye (l:List Part) (hl:∀ x∈l,0≤x.least):∀ a b k,0≤a→0≤(Qd2 l a b k).1:=by
 induction l with
 | nil=>intro a b k h;exact h
 | cons x r ih =>
  intro a b k h;have hr:=ih (fun y hy=>hl y (List.mem_cons_of_mem _ hy));have hx:=hl x (List.mem_cons_self ..);rw [Qd2]
  split
  ·exact hr _ _ _ hx
  ·split
   ·exact hr _ _ _ h
   ·exact hr _ _ _ h
theorem Qsc:∀ n:Fin 23,Qgl (Qae ((n.val:Nat):Int))≤1∧∀ x∈Qae ((n.val:Nat):Int),0≤x.least:=by decide
theorem Qvn (k:Int):Qgl (Qae k)≤1∧∀ x∈Qae k,0≤x.least:=by
 by_cases h:k≤0∨23≤k
 ·rw [Qds h];exact ⟨by decide,fun x hx=>by simp at hx⟩
 ·have:=Qsc ⟨k.toNat,by omega⟩
  rw [show (((⟨k.toNat,by omega⟩:Fin 23).val:Nat):Int)=k from by show ((k.toNat:Nat):Int)=k;omega] at this;exact this
theorem Qtv {kd k:Int} (h:(Qb1 (Qae kd) k).2=true):0≤(Qb1 (Qae kd) k).1∧Qtu (Qae kd) (Qb1 (Qae kd) k).1=k:=by
 obtain ⟨_,hk0,hne⟩:=Qpi _ _ h;obtain ⟨hs,hl⟩:=Qvn kd;have h0:=Qye _ hl 0 0 k (Int.le_refl _);have h1:=Qkn (Qae kd) 0 0 k
 have hf:Qb1 (Qae kd) k=((Qd2 (Qae kd) 0 0 k).2.2,decide ((Qd2 (Qae kd) 0 0 k).1≤(Qd2 (Qae kd) 0 0 k).2.2) && decide ((Qd2 (Qae kd) 0 0 k).2.2≤(Qd2 (Qae kd) 0 0 k).2.1)):=by
  unfold Qb1;rw [xN (by intro e;rcases e with e | e;exact hne e;omega)]
 rw [hf] at h ⊢;simp only [Bool.and_eq_true,decide_eq_true_eq] at h;rw [Qyd]
 show 0≤(Qd2 (Qae kd) 0 0 k).2.2∧_+_*(Qd2 (Qae kd) 0 0 k).2.2=k
 refine ⟨by omega,?_⟩
 rcases Nat.le_one_iff_eq_zero_or_eq_one.1 hs with hz | hz
 ·obtain ⟨e1,e2⟩:=Qvm _ hz 0 0 k;rw [hz];rw [e1,e2] at h;omega
 ·rw [hz,h1];omega
theorem Qmj (l:List Part) (n:Int) (hn:0≤n):0≤Qtu l n:=by
 rw [Qyd];have:0≤(Qgl l:Int)*n:=Int.mul_nonneg (by omega) hn
 omega
theorem Qj0 (x:Part) (n:Int) (hn:0≤n):0≤Qbx x n:=by
 unfold Qbx
 split
 ·exact hn
 ·split <;> decide
theorem Zb5 {t k:Tr} {j:Nat} (h:t.kids[j]? = some k):SizeOf.sizeOf k<SizeOf.sizeOf t:=by
 cases t with
 | mk kd x ls ks =>
  have:=List.sizeOf_lt_of_mem (yA (show ks[j]? = some k from h))
  rw [Tr.mk.sizeOf_spec];omega
theorem Qgb:(a b:List Tr)→Qdw (a ++ b)=(Qdw a && Qdw b)
 | [],b=>by rw [xU,Qdw,Bool.true_and]
 | t :: r,b=>by rw [xV,Qdw,Qdw,Qgb r b,Bool.and_assoc]
theorem Qoc (t:Tr) (h:Qcp t=true):Qdw [t] = true:=by rw [Qdw,h,Qdw];rfl
def Qqp (T:Int→PS→Option (Tr × PS)):Prop:=∀ s p t q,T s p=some (t,q)→Qcp t=true
theorem Qqq {T:Int→PS→Option (Tr × PS)} (hT:Qqp T) {x:Part}:∀ (n:Nat) (more:Bool) (ks:List Tr) (cs:List ByteArray) (p:PS) (r:List Tr × List ByteArray × PS),Qdc T x n more ks cs p=some r→Qdw ks=true→Qdw r.1=true:=by
 intro n
 induction n with
 | zero =>
  intro more ks cs p r h hs
  cases more
  ·have:=Qfi h
   subst this;exact hs
  ·unfold Qdc at h;cases h
 | succ n ih =>
  intro more ks cs p r h hs
  cases more
  ·have:=Qfi h
   subst this;exact hs
  ·obtain ⟨t,q,ht,hw⟩:=Qhp h;have h1:Qdw (ks ++ [t])=true:=by rw [Qgb,hs,Qoc t (hT _ _ _ _ ht)];rfl
   rcases hw with ⟨_,_,hs'⟩|⟨_,_,hs'⟩|⟨_,hs'⟩
   ·exact ih _ _ _ _ _ hs' h1
   ·exact ih _ _ _ _ _ hs' h1
   ·exact ih _ _ _ _ _ hs' h1
theorem Qvq {T:Int→PS→Option (Tr × PS)} (hT:Qqp T) {n:Nat} (hn:n≤65536) {kind:Int}:∀ (l:List Part) (text:ByteArray) (leads:List ByteArray) (kids:List Tr) (commas:List ByteArray) (p:PS) (r:Tr × PS),Qgh T n kind l text leads kids commas p=some r →
  leads.length+l.length≤100→kids.length+l.length*65536≤1000000→commas.length≤65536→Qdw kids=true→Qcp r.1=true:=by
 intro l
 induction l with
 | nil =>
  intro text leads kids commas p r h h1 h2 h3 h4;have:=Qqj h
  subst this;rw [xG] at h1 h2;unfold Qcp;simp only [Bool.and_eq_true,decide_eq_true_eq,xB];exact ⟨⟨by omega,by omega⟩,h4⟩
 | cons x l ih =>
  intro text leads kids commas p r h h1 h2 h3 h4;rw [xD] at h1 h2
  rcases Qn7 h with ⟨_,s,hs,hg⟩|⟨_,_,t,q,ht,hg⟩|⟨_,_,hg⟩
  ·have hl:=Qmh _ _ _ _ _ _ hs;simp only [xG] at hl;refine ih _ _ _ _ _ _ hg (by omega) (by rw [xB];omega) (by omega) ?_;rw [Qgb,h4,Qqq hT _ _ _ _ _ _ hs (by rw [Qdw])];rfl
  ·refine ih _ _ _ _ _ _ hg (by omega) (by rw [xB,List.length_singleton];omega) h3 ?_;rw [Qgb,h4,Qoc t (hT _ _ _ _ ht)];rfl
  ·have key:∀ s:ByteArray × List ByteArray × PS,s.2.1.length≤leads.length+1→Qgh T n kind l s.1 s.2.1 kids commas s.2.2=some r→Qcp r.1=true:=fun s h5 h6=>ih s.1 s.2.1 kids commas s.2.2 r h6 (xQ (Nat.add_le_add_right h5 _) (by omega)) (xQ (Nat.add_le_add_left (Nat.mul_le_mul_right 65536 (Nat.le_succ l.length)) kids.length) h2) h3 h4
   exact key _ (Qn8 x text leads p) hg
theorem Qmn {T:Int→PS→Option (Tr × PS)} (hT:Qqp T) {n:Nat} (hn:n≤65536) {kind:Int} {p:PS} {r:Tr × PS} (h:Qgh T n kind (Qae kind) ⟨#[]⟩ [] [] [] p=some r):Qcp r.1=true:=by
 have:=Qio kind
 have h1:([]:List ByteArray).length+(Qae kind).length≤100:=by rw [xG];omega
 have h2:([]:List Tr).length+(Qae kind).length*65536≤1000000:=by rw [xG];omega
 exact Qvq hT hn (Qae kind) ⟨#[]⟩ [] [] [] p r h h1 h2 (xZ _) (by rw [Qdw])
theorem Qyi {T:Int→PS→Option (Tr × PS)} (hT:Qqp T) {s:Int}:∀ (n:Nat) (t:Tr) (p:PS) (r:Tr × PS),Zbi T s n t p=some r→Qcp t=true→Qcp r.1=true:=by
 intro n
 induction n with
 | zero=>intro t p r h _;unfold Zbi at h;cases h
 | succ n ih =>
  intro t p r h ht
  rcases Qqo h with (⟨_,_,u,q,hu,hn⟩|⟨_,_,he⟩) | ⟨_,he⟩
  ·refine ih _ _ _ hn ?_;have h1:=hT _ _ _ _ hu;unfold Qcp;simp only [xD,xG];rw [Qdw,ht,Qdw,h1,Qdw];rfl
  ·subst he;exact ht
  ·subst he;exact ht
theorem Qvr:∀ n,n≤65536→Qqp (Qhm n):=by
 intro n
 induction n with
 | zero=>intro _ s p t q h;unfold Qhm at h;cases h
 | succ n ih =>
  intro hn s p t q h;have hT:=ih (by omega)
  rcases Qob h with ⟨_,he⟩|⟨_,t0,q0,hN,ho⟩
  ·injection he with h1 _;subst h1;rfl
  ·exact Qyi hT _ _ _ _ ho (Qmn hT (by omega) hN)
theorem Ze6:∀ n,n≤65536→Qvg (Qhm n):=by
 intro n
 induction n with
 | zero=>intro _ b s p t q w h;unfold Qhm at h;cases h
 | succ n ih =>
  intro hn;have hT:=ih (by omega);exact Ze5 hT (Qyh hT (by omega))
theorem Ze7 {n:Nat} (hn:n≤65536):Zex (fun k p=>Qgh (Qhm n) n k (Qae k) ⟨#[]⟩ [] [] [] p):=Qyh (Ze6 n hn) hn
theorem Qvs:Qa3 [] = 0:=by decide
theorem Qyj (ts:List Tok) (tail:List UInt8):(Qki ts tail).length=(ts.map fun t=>t.lead.size+t.text.size).sum+tail.length:=by
 induction ts with
 | nil=>simp [Qki]
 | cons t r ih =>
  unfold Qki at ih ⊢;rw [List.flatMap_cons,xT,xB,ih,xB,Qgf,Qgf,List.map_cons,List.sum_cons];omega
theorem Ze8 (ts:List Tok) (h:∀ t∈ts,Qo4 t):ts.length≤(ts.map fun t=>t.lead.size+t.text.size).sum:=by
 induction ts with
 | nil=>simp
 | cons t r ih =>
  have h1:=ih (fun u hu=>h u (List.mem_cons_of_mem _ hu));obtain ⟨h2,h3,_⟩:=h t (List.mem_cons_self ..)
  have h4:0<t.text.size:=by
   rcases Nat.eq_zero_or_pos t.text.size with h0 | h0
   ·exfalso
    have:bl t.text = []:=List.eq_nil_of_length_eq_zero (by rw [Qgf];exact h0)
    rw [this,Qvs] at h2;exact h3 h2.symm
   ·exact h0
  rw [xD,List.map_cons,List.sum_cons];omega
theorem Qod {s:ByteArray} (h:(Qbf s).e=0):s.size≤4096:=by
 rcases Nat.lt_or_ge 4096 s.size with h' | h'
 ·unfold Qbf at h;rw [xO h'] at h;cases h
 ·exact h'
def Qnt (s:ByteArray):PS:=⟨(Qbf s).toks ++ [⟨0,(Qbf s).tail,⟨#[]⟩⟩],0,0,0⟩
theorem Qoe {s:ByteArray} (h:(Qbf s).e=0):(Qbf s).toks.length≤4096∧((Qbf s).toks.map fun t=>t.lead.size+t.text.size).sum+(Qbf s).tail.size=s.size:=by
 obtain ⟨h1,h2,_⟩:=(Qin s).1 h;have h3:=Qyj (Qbf s).toks (bl (Qbf s).tail);rw [h2,Qgf,Qgf] at h3;have h4:=Ze8 _ h1;have h5:=Qod h;exact ⟨by omega,h3.symm⟩
theorem Ze9 {s:ByteArray} (h:(Qbf s).e=0):PSok (Qnt s):=by
 obtain ⟨h1,h2⟩:=Qoe h;have h5:=Qod h
 refine ⟨⟨(Qbf s).toks,_,rfl,rfl⟩,?_,?_,xZ _⟩
 ·show ((Qbf s).toks ++ [_]).length≤_
  rw [xB,List.length_singleton];omega
 ·show 0+(((Qbf s).toks ++ [_]).map _).sum≤_
  rw [List.map_append,List.sum_append];simp only [List.map_cons,List.map_nil,List.sum_cons,List.sum_nil]
  show 0+(_+((Qbf s).tail.size+0+0))≤_
  omega
end Go.Proofs.YtjidpkcjpgdafaaGreat
