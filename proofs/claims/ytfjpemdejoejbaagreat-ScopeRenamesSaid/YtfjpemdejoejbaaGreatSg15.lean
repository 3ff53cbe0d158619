/- Part 15 -/
import Derived.Test.YtfjpemdejoejbaaGreatSg12
import Derived.Test.YtfjpemdejoejbaaGreatSg13
import Derived.Test.YtfjpemdejoejbaaGreatSg14
set_option maxRecDepth 100000
set_option maxHeartbeats 4000000
namespace Go.Proofs.YtfjpemdejoejbaaGreat
open Go.RowKit
theorem TrAt.keep {S:Nat→Prop} {w w':World} {t:Tr} {v:TV} (h:TrAt S w t v) (hb:Below w.heap.size w w'):TrAt S w' t v:=TrAt.move (fun _ h=>h) (fun k _ hlt=>hb.block k hlt) t v h
theorem TrAt.kid {S:Nat→Prop} {w:World} {t:Tr} {v:TV} (h:TrAt S w t v) {j:Nat} {k:Tr} (hk:t.kids[j]? = some k) :
  v.kl=t.kids.length∧∃ b off,v.ka=some ⟨b,off,none⟩∧S b∧∃ u:TV,w.cell? ⟨b,off+j*4,none⟩=some (.int .i64 u.kind)∧w.cell? ⟨b,off+j*4+1,none⟩=some (.string u.text)∧w.cell? ⟨b,off+j*4+2,none⟩=some (.slice u.la u.ll u.lc)∧w.cell? ⟨b,off+j*4+3,none⟩=some (.slice u.ka u.kl u.kc)∧TrAt S w k u:=by
 cases t with
 | mk kd tx ls ks =>
  unfold TrAt at h;obtain ⟨_,_,_,h4,_,h6,_⟩:=h;obtain ⟨b,off,hA,hb,hc⟩:=h6 (by intro e;rw [show (Tr.mk kd tx ls ks).kids=ks from rfl,e] at hk;simp at hk);exact ⟨h4,b,off,hA,hb,TrsAt.get ks off hc j k hk⟩
theorem TrAt.addr {S:Nat→Prop} {w:World} {t:Tr} {v:TV} (h:TrAt S w t v):t.kids.length=0∨∃ b off,v.ka=some ⟨b,off,none⟩:=by
 cases t with
 | mk kd tx ls ks =>
  unfold TrAt at h;cases ks with
  | nil=>exact .inl rfl
  | cons a r =>
   obtain ⟨b,off,hA,_⟩:=h.2.2.2.2.2.1 (by simp);exact .inr ⟨b,off,hA⟩
theorem TrAt.at {S:Nat→Prop} {w:World} {t:Tr} {v:TV} {b off:Nat} (h:TrAt S w t v) (hA:v.ka=some ⟨b,off,none⟩) {j:Nat} {k:Tr} (hk:t.kids[j]? = some k) :
  ∃ u:TV,w.cell? ⟨b,off+j*4,none⟩=some (.int .i64 u.kind)∧w.cell? ⟨b,off+j*4+1,none⟩=some (.string u.text)∧w.cell? ⟨b,off+j*4+2,none⟩=some (.slice u.la u.ll u.lc)∧w.cell? ⟨b,off+j*4+3,none⟩=some (.slice u.ka u.kl u.kc)∧TrAt S w k u:=by
 obtain ⟨_,b',off',hA',_,u,hu⟩:=h.kid hk;rw [hA] at hA';injection hA' with e;injection e with e1 e2 _;subst e1 e2;exact ⟨u,hu⟩
theorem TrAt.kl {S:Nat→Prop} {w:World} {t:Tr} {v:TV} (h:TrAt S w t v):v.kl=t.kids.length∧v.ll=t.leads.length∧v.kind=t.kind∧v.text=t.text:=by
 cases t with
 | mk kd tx ls ks =>
  unfold TrAt at h;exact ⟨h.2.2.2.1,h.2.2.1,h.1,h.2.1⟩
theorem TrAt.caps {S:Nat→Prop} {w:World} {t:Tr} {v:TV} (h:TrAt S w t v):v.ll≤v.lc∧v.kl≤v.kc:=by
 cases t with
 | mk kd tx ls ks =>
  unfold TrAt at h;exact h.2.2.2.2.2.2
theorem Qlb (t:Tr) (n:Nat):Qdn t (n+1)=Qfa t.kids n:=by
 cases t with
 | mk kd tx ls ks=>rw [Qdn];rfl
theorem Qqa (t:Tr):Qdn t 0=false:=by
 cases t with
 | mk kd tx ls ks=>rw [Qdn]
theorem Qv5 (l:List Tr) (n j:Nat) (k:Tr) (hk:l[j]? = some k):Qfa (l.drop j) n=(Qdn k n && Qfa (l.drop (j+1)) n):=by
 obtain ⟨hj,he⟩:=xP.1 hk;rw [List.drop_eq_getElem_cons hj,he,Qfa]
theorem Qme (l:List Tr) (n j:Nat) (h:l.length≤j):Qfa (l.drop j) n=true:=by
 rw [List.drop_eq_nil_of_le h,Qfa]
mutual
def Qcf:Tr→Bool
 | .mk _ _ ls ks=>decide (ls.length≤140737488355328) && decide (ks.length≤140737488355328) && Qda ks
def Qda:List Tr→Bool
 | []=>true
 | t :: r=>Qcf t && Qda r
end
theorem Qnv:(l:List Tr)→(j:Nat)→(k:Tr)→Qda l=true→l[j]? = some k→Qcf k=true
 | [],j,k,_,h=>by simp at h
 | a :: r,j,k,hs,h=>by
  unfold Qda at hs;rw [Bool.and_eq_true] at hs;cases j with
  | zero=>simp at h;subst h;exact hs.1
  | succ j=>exact Qnv r j k hs.2 (by simpa using h)
theorem Qfk {t:Tr} (h:Qcf t=true):t.leads.length≤140737488355328∧t.kids.length≤140737488355328∧∀ (j:Nat) (k:Tr),t.kids[j]? = some k→Qcf k=true:=by
 cases t with
 | mk kd tx ls ks =>
  unfold Qcf at h;simp only [Bool.and_eq_true,decide_eq_true_eq] at h;exact ⟨h.1.1,h.1.2,fun j k hk=>Qnv ks j k h.2 hk⟩
theorem Qv6 (n:Nat):∀ (S:Nat→Prop) (t:Tr) (v:TV) (w:World),n≤60→TrAt S w t v→Qcf t=true →
  Calls Tryz.prog 53 #[.agg #[.int .i64 v.kind,.string v.text,.slice v.la v.ll v.lc,.slice v.ka v.kl v.kc],.int .i64 n] w fun e w'=>e = .returned (.bool (Qdn t n))∧Below w.heap.size w w':=by
 induction n with
 | zero =>
  intro S t v w _ _ _;have HR:=hQ (Qqa t)
  go_enter Tryz.func53,Tryz.ntmps53
  go_wp2
  go_ret
  exact ⟨by rw [HR.out];rfl,(xC _ _).alloc (xA _) _⟩
 | succ n ih =>
  intro S t v w hn h hs;obtain ⟨_,hk1,hk2⟩:=Qfk hs;have HK2:=hQ hk2;have HIH:=hQ ih;have hkl:=h.kl.1;have hadr:=h.addr;obtain ⟨vk,vx,vla,vll,vlc,vka,vkl,vkc⟩:=v;simp only at hkl hadr;subst hkl;have HN:=hQ (show n≤60 from by omega);have hn0:((n:Int)+1==0)=false:=Qcr (by omega);have hn60:(n:Int)≤60:=by omega
  have hnw:(n:Int)+1-1=(n:Int):=by omega
  have HT:=hQ h;clear h hs hk2 ih hn
  rcases hadr with h0|⟨b,off,rfl⟩
  ·have HKL:=hQ h0;clear h0
   go_enter Tryz.func53,Tryz.ntmps53
   go_wp2
   go_loopg [12] t.kids.length (fun g u12 wr=>∃ j:Nat,u12 = .int .i64 j∧j+g=t.kids.length∧Below w.heap.size w wr∧Qdn t (n+1)=Qfa (t.kids.drop j) n)
   case atStart=>exact ⟨0,rfl,by omega,(xC _ _).alloc (xA _) _,Qlb t n⟩
   case round =>
    obtain ⟨j,rfl,hj,hb,hw⟩:=hrel;have HB:=hQ hb;have HJ:=hQ hj;have HW:=hQ hw;clear hj hb hw;have hlt:¬ j<t.kids.length:=by have:=HKL.out;omega
    have HR:=hQ (HW.out.trans (Qme t.kids n j (by omega)))
    go_wp2
    go_ret
    exact ⟨by rw [HR.out];rfl,HB.out⟩
  ·skip
   go_enter Tryz.func53,Tryz.ntmps53
   go_wp2
   go_loopg [12] t.kids.length (fun g u12 wr=>∃ j:Nat,u12 = .int .i64 j∧j+g=t.kids.length∧Below w.heap.size w wr∧Qdn t (n+1)=Qfa (t.kids.drop j) n)
   case atStart=>exact ⟨0,rfl,by omega,(xC _ _).alloc (xA _) _,Qlb t n⟩
   case round =>
    obtain ⟨j,rfl,hj,hb,hw⟩:=hrel;have HB:=hQ hb;have HJ:=hQ hj;have HW:=hQ hw;clear hj hb hw
    by_cases hlt:j<t.kids.length
    ·obtain ⟨k,hk⟩:∃ k,t.kids[j]? = some k:=⟨_,xF hlt⟩;obtain ⟨u,c0,c1,c2,c3,hu⟩:=(HT.out.keep HB.out).at rfl hk;have HU:=hQ hu;have HSK:=hQ (HK2.out j k hk);have HLT:=hQ hlt;have HAT:=hQ (HW.out.trans (Qv5 t.kids n j k hk));have hj0:(0:Int)≤(j:Int):=by omega
     have hj1:(j:Int)<(t.kids.length:Int):=by omega
     have hj2:(j:Int)+1≤140737488355328:=by omega
     clear hk hu
     cases hwk:Qdn k n
     ·have HR:=hQ (show Qdn t (n+1)=false from by rw [HAT.out,hwk];rfl);go_wp2_with (go_at_call 53;refine (HIH.out S k u _ HN.out (HU.out.keep ((xC _ _).alloc (xA _) _)) HSK.out).mono ?_;rintro e w2 ⟨rfl,hb2⟩;have HB2:=hQ ((HB.out.alloc HB.out.size (.cells #[.int .i64 u.kind,.string u.text,.slice u.la u.ll u.lc,.slice u.ka u.kl u.kc] 25)).trans (hb2.mono (by have:=HB.out.size;simp;omega)));clear hb2)
      go_ret
      exact ⟨by rw [HR.out];rfl,HB2.out⟩
     ·have HR:=hQ (show Qdn t (n+1)=Qfa (t.kids.drop (j+1)) n from by rw [HAT.out,hwk,Bool.true_and]);go_wp2_with (go_at_call 53;refine (HIH.out S k u _ HN.out (HU.out.keep ((xC _ _).alloc (xA _) _)) HSK.out).mono ?_;rintro e w2 ⟨rfl,hb2⟩;have HB2:=hQ ((HB.out.alloc HB.out.size (.cells #[.int .i64 u.kind,.string u.text,.slice u.la u.ll u.lc,.slice u.ka u.kl u.kc] 25)).trans (hb2.mono (by have:=HB.out.size;simp;omega)));clear hb2)
      go_roundg (gk-1)
      case measure=>have:=HJ.out;have:=HLT.out;omega
      case rel=>exact ⟨j+1,by go_num,by have:=HJ.out;have:=HLT.out;omega,HB2.out,HR.out⟩
    ·have HR:=hQ (HW.out.trans (Qme t.kids n j (by omega)))
     go_wp2
     go_ret
     exact ⟨by rw [HR.out];rfl,HB.out⟩
end Go.Proofs.YtfjpemdejoejbaaGreat
namespace Go.Proofs.YtfjpemdejoejbaaGreat
def Qen:List Part→Int→List Int
 | [],_=>[]
 | x :: r,n=>List.replicate (Qb0 x n).toNat x.kids ++ Qen r n
mutual
def Qan:Tr→Bool
 | .mk kd x _ ks=>(Qb4 (Qae kd) ks.length).2 && Qbn (Qae kd) x && Qc1 ks (Qen (Qae kd) (Qb4 (Qae kd) ks.length).1)
def Qc1:List Tr→List Int→Bool
 | [],_=>true
 | _ :: _,[]=>true
 | k :: r,s :: ss=>Qfg s k.kind && Qan k && Qc1 r ss
end
theorem Qkr (t:Tr):Qan t=((Qb4 (Qae t.kind) t.kids.length).2 && Qbn (Qae t.kind) t.text && Qc1 t.kids (Qen (Qae t.kind) (Qb4 (Qae t.kind) t.kids.length).1)):=by
 cases t with
 | mk kd x ls ks=>rw [Qan];rfl
theorem Qlc (k:Tr) (r:List Tr) (s:Int) (ss:List Int):Qc1 (k :: r) (s :: ss)=(Qfg s k.kind && Qan k && Qc1 r ss):=by rw [Qc1]
theorem Qjl (ss:List Int):Qc1 [] ss=true:=by rw [Qc1]
def Qo6:List Part→Nat
 | []=>0
 | x :: r=>(if x.series then 0 else if x.kids≠0 then 1 else 0)+Qo6 r
def Qgi:List Part→Nat
 | []=>0
 | x :: r=>(if x.series then 1 else 0)+Qgi r
def Qt7:List Part→Int→Int
 | [],_=>0
 | x :: r,n=>Qb0 x n+Qt7 r n
theorem Qyz (l:List Part) (n:Int):Qt7 l n=Qo6 l+Qgi l*n:=by
 induction l with
 | nil=>simp [Qt7,Qo6,Qgi]
 | cons x r ih =>
  rw [Qt7,Qo6,Qgi,ih];unfold Qb0
  cases hs:x.series
  ·by_cases hk:x.kids≠0
   ·rw [xN (by decide),xO hk,xN (by decide),xO hk,xN (by decide),Nat.zero_add];omega
   ·rw [xN (by decide),xN hk,xN (by decide),xN hk,xN (by decide),Nat.zero_add,Nat.zero_add];omega
  ·rw [xO rfl,xO rfl,xO rfl];rw [show ((1+Qgi r:Nat):Int)=1+(Qgi r:Int) from by omega,Int.add_mul,Int.one_mul];omega
theorem Qks (l:List Part):∀ a b k,(Qd3 l a b k).2.2=k-Qo6 l:=by
 induction l with
 | nil=>intro a b k;simp [Qd3,Qo6]
 | cons x r ih =>
  intro a b k;rw [Qd3,Qo6]
  cases hs:x.series
  ·by_cases hk:x.kids≠0
   ·rw [xN (by decide),xO hk,ih,xN (by decide),xO hk];omega
   ·rw [xN (by decide),xN hk,ih,xN (by decide),xN hk];omega
  ·rw [xO rfl,ih,xO rfl];omega
theorem Qv7 (l:List Part) (h:Qgi l=0):∀ a b k,(Qd3 l a b k).1=a∧(Qd3 l a b k).2.1=b:=by
 induction l with
 | nil=>intro a b k;exact ⟨rfl,rfl⟩
 | cons x r ih =>
  intro a b k;rw [Qgi] at h;rw [Qd3]
  cases hs:x.series
  ·rw [hs] at h;have hr:=ih (by simpa using h)
   by_cases hk:x.kids≠0
   ·rw [xN (by decide),xO hk];exact hr _ _ _
   ·rw [xN (by decide),xN hk];exact hr _ _ _
  ·rw [hs] at h;simp at h
theorem Qy0 (l:List Part) (hl:∀ x∈l,0≤x.least):∀ a b k,0≤a→0≤(Qd3 l a b k).1:=by
 induction l with
 | nil=>intro a b k h;exact h
 | cons x r ih =>
  intro a b k h;have hr:=ih (fun y hy=>hl y (List.mem_cons_of_mem _ hy));have hx:=hl x (List.mem_cons_self ..);rw [Qd3]
  split
  ·exact hr _ _ _ hx
  ·split
   ·exact hr _ _ _ h
   ·exact hr _ _ _ h
theorem Qsh:∀ n:Fin 23,Qgi (Qae ((n.val:Nat):Int))≤1∧∀ x∈Qae ((n.val:Nat):Int),0≤x.least:=by decide
theorem Qv8 (k:Int):Qgi (Qae k)≤1∧∀ x∈Qae k,0≤x.least:=by
 by_cases h:k≤0∨23≤k
 ·rw [Qdv h];exact ⟨by decide,fun x hx=>by simp at hx⟩
 ·have:=Qsh ⟨k.toNat,by omega⟩
  rw [show (((⟨k.toNat,by omega⟩:Fin 23).val:Nat):Int)=k from by show ((k.toNat:Nat):Int)=k;omega] at this;exact this
theorem Qt8 {kd k:Int} (h:(Qb4 (Qae kd) k).2=true):0≤(Qb4 (Qae kd) k).1∧Qt7 (Qae kd) (Qb4 (Qae kd) k).1=k:=by
 obtain ⟨_,hk0,hne⟩:=Qo5 _ _ h;obtain ⟨hs,hl⟩:=Qv8 kd;have h0:=Qy0 _ hl 0 0 k (Int.le_refl _);have h1:=Qks (Qae kd) 0 0 k
 have hf:Qb4 (Qae kd) k=((Qd3 (Qae kd) 0 0 k).2.2,decide ((Qd3 (Qae kd) 0 0 k).1≤(Qd3 (Qae kd) 0 0 k).2.2) && decide ((Qd3 (Qae kd) 0 0 k).2.2≤(Qd3 (Qae kd) 0 0 k).2.1)):=by
  unfold Qb4;rw [xN (by intro e;rcases e with e | e;exact hne e;omega)]
 rw [hf] at h ⊢;simp only [Bool.and_eq_true,decide_eq_true_eq] at h;rw [Qyz]
 show 0≤(Qd3 (Qae kd) 0 0 k).2.2∧_+_*(Qd3 (Qae kd) 0 0 k).2.2=k
 refine ⟨by omega,?_⟩
 rcases Nat.le_one_iff_eq_zero_or_eq_one.1 hs with hz | hz
 ·obtain ⟨e1,e2⟩:=Qv7 _ hz 0 0 k;rw [hz];rw [e1,e2] at h;omega
 ·rw [hz,h1];omega
theorem Qmf (l:List Part) (n:Int) (hn:0≤n):0≤Qt7 l n:=by
 rw [Qyz];have:0≤(Qgi l:Int)*n:=Int.mul_nonneg (by omega) hn
 omega
theorem Qj7 (x:Part) (n:Int) (hn:0≤n):0≤Qb0 x n:=by
 unfold Qb0
 split
 ·exact hn
 ·split <;> decide
theorem Zcw {t k:Tr} {j:Nat} (h:t.kids[j]? = some k):SizeOf.sizeOf k<SizeOf.sizeOf t:=by
 cases t with
 | mk kd x ls ks =>
  have:=List.sizeOf_lt_of_mem (yA (show ks[j]? = some k from h))
  rw [Tr.mk.sizeOf_spec];omega
theorem Qf9:(a b:List Tr)→Qda (a ++ b)=(Qda a && Qda b)
 | [],b=>by rw [xU,Qda,Bool.true_and]
 | t :: r,b=>by rw [xV,Qda,Qda,Qf9 r b,Bool.and_assoc]
theorem Qny (t:Tr) (h:Qcf t=true):Qda [t] = true:=by rw [Qda,h,Qda];rfl
def Qqf (T:Int→PS→Option (Tr × PS)):Prop:=∀ s p t q,T s p=some (t,q)→Qcf t=true
theorem Qqg {T:Int→PS→Option (Tr × PS)} (hT:Qqf T) {x:Part}:∀ (n:Nat) (more:Bool) (ks:List Tr) (cs:List ByteArray) (p:PS) (r:List Tr × List ByteArray × PS),Qdg T x n more ks cs p=some r→Qda ks=true→Qda r.1=true:=by
 intro n
 induction n with
 | zero =>
  intro more ks cs p r h hs
  cases more
  ·have:=Qfi h
   subst this;exact hs
  ·unfold Qdg at h;cases h
 | succ n ih =>
  intro more ks cs p r h hs
  cases more
  ·have:=Qfi h
   subst this;exact hs
  ·obtain ⟨t,q,ht,hw⟩:=Qhr h;have h1:Qda (ks ++ [t])=true:=by rw [Qf9,hs,Qny t (hT _ _ _ _ ht)];rfl
   rcases hw with ⟨_,_,hs'⟩|⟨_,_,hs'⟩|⟨_,hs'⟩
   ·exact ih _ _ _ _ _ hs' h1
   ·exact ih _ _ _ _ _ hs' h1
   ·exact ih _ _ _ _ _ hs' h1
theorem Qwb {T:Int→PS→Option (Tr × PS)} (hT:Qqf T) {n:Nat} (hn:n≤65536) {kind:Int}:∀ (l:List Part) (text:ByteArray) (leads:List ByteArray) (kids:List Tr) (commas:List ByteArray) (p:PS) (r:Tr × PS),Qgf T n kind l text leads kids commas p=some r →
  leads.length+l.length≤100→kids.length+l.length*65536≤1000000→commas.length≤65536→Qda kids=true→Qcf r.1=true:=by
 intro l
 induction l with
 | nil =>
  intro text leads kids commas p r h h1 h2 h3 h4;have:=Qp9 h
  subst this;rw [xG] at h1 h2;unfold Qcf;simp only [Bool.and_eq_true,decide_eq_true_eq,xB];exact ⟨⟨by omega,by omega⟩,h4⟩
 | cons x l ih =>
  intro text leads kids commas p r h h1 h2 h3 h4;rw [xD] at h1 h2
  rcases Qnt h with ⟨_,s,hs,hg⟩|⟨_,_,t,q,ht,hg⟩|⟨_,_,hg⟩
  ·have hl:=Qmd _ _ _ _ _ _ hs;simp only [xG] at hl;refine ih _ _ _ _ _ _ hg (by omega) (by rw [xB];omega) (by omega) ?_;rw [Qf9,h4,Qqg hT _ _ _ _ _ _ hs (by rw [Qda])];rfl
  ·refine ih _ _ _ _ _ _ hg (by omega) (by rw [xB,List.length_singleton];omega) h3 ?_;rw [Qf9,h4,Qny t (hT _ _ _ _ ht)];rfl
  ·have key:∀ s:ByteArray × List ByteArray × PS,s.2.1.length≤leads.length+1→Qgf T n kind l s.1 s.2.1 kids commas s.2.2=some r→Qcf r.1=true:=fun s h5 h6=>ih s.1 s.2.1 kids commas s.2.2 r h6 (xQ (Nat.add_le_add_right h5 _) (by omega)) (xQ (Nat.add_le_add_left (Nat.mul_le_mul_right 65536 (Nat.le_succ l.length)) kids.length) h2) h3 h4
   exact key _ (Qnu x text leads p) hg
theorem Qmi {T:Int→PS→Option (Tr × PS)} (hT:Qqf T) {n:Nat} (hn:n≤65536) {kind:Int} {p:PS} {r:Tr × PS} (h:Qgf T n kind (Qae kind) ⟨#[]⟩ [] [] [] p=some r):Qcf r.1=true:=by
 have:=Qix kind
 have h1:([]:List ByteArray).length+(Qae kind).length≤100:=by rw [xG];omega
 have h2:([]:List Tr).length+(Qae kind).length*65536≤1000000:=by rw [xG];omega
 exact Qwb hT hn (Qae kind) ⟨#[]⟩ [] [] [] p r h h1 h2 (xZ _) (by rw [Qda])
theorem Qy4 {T:Int→PS→Option (Tr × PS)} (hT:Qqf T) {s:Int}:∀ (n:Nat) (t:Tr) (p:PS) (r:Tr × PS),Zcb T s n t p=some r→Qcf t=true→Qcf r.1=true:=by
 intro n
 induction n with
 | zero=>intro t p r h _;unfold Zcb at h;cases h
 | succ n ih =>
  intro t p r h ht
  rcases Qqe h with (⟨_,_,u,q,hu,hn⟩|⟨_,_,he⟩) | ⟨_,he⟩
  ·refine ih _ _ _ hn ?_;have h1:=hT _ _ _ _ hu;unfold Qcf;simp only [xD,xG];rw [Qda,ht,Qda,h1,Qda];rfl
  ·subst he;exact ht
  ·subst he;exact ht
theorem Qwc:∀ n,n≤65536→Qqf (Qho n):=by
 intro n
 induction n with
 | zero=>intro _ s p t q h;unfold Qho at h;cases h
 | succ n ih =>
  intro hn s p t q h;have hT:=ih (by omega)
  rcases Qnx h with ⟨_,he⟩|⟨_,t0,q0,hN,ho⟩
  ·injection he with h1 _;subst h1;rfl
  ·exact Qy4 hT _ _ _ _ ho (Qmi hT (by omega) hN)
theorem Zf7:∀ n,n≤65536→Qv1 (Qho n):=by
 intro n
 induction n with
 | zero=>intro _ b s p t q w h;unfold Qho at h;cases h
 | succ n ih =>
  intro hn;have hT:=ih (by omega);exact Zf6 hT (Qy3 hT (by omega))
theorem Zf8 {n:Nat} (hn:n≤65536):Zfy (fun k p=>Qgf (Qho n) n k (Qae k) ⟨#[]⟩ [] [] [] p):=Qy3 (Zf7 n hn) hn
theorem Qwd:Qa4 [] = 0:=by decide
theorem Qy5 (ts:List Tok) (tail:List UInt8):(Qko ts tail).length=(ts.map fun t=>t.lead.size+t.text.size).sum+tail.length:=by
 induction ts with
 | nil=>simp [Qko]
 | cons t r ih =>
  unfold Qko at ih ⊢;rw [List.flatMap_cons,xT,xB,ih,xB,Qgd,Qgd,List.map_cons,List.sum_cons];omega
theorem Zf9 (ts:List Tok) (h:∀ t∈ts,Qor t):ts.length≤(ts.map fun t=>t.lead.size+t.text.size).sum:=by
 induction ts with
 | nil=>simp
 | cons t r ih =>
  have h1:=ih (fun u hu=>h u (List.mem_cons_of_mem _ hu));obtain ⟨h2,h3,_⟩:=h t (List.mem_cons_self ..)
  have h4:0<t.text.size:=by
   rcases Nat.eq_zero_or_pos t.text.size with h0 | h0
   ·exfalso
    have:bl t.text = []:=List.eq_nil_of_length_eq_zero (by rw [Qgd];exact h0)
    rw [this,Qwd] at h2;exact h3 h2.symm
   ·exact h0
  rw [xD,List.map_cons,List.sum_cons];omega
theorem Qnz {s:ByteArray} (h:(Qbh s).e=0):s.size≤4096:=by
 rcases Nat.lt_or_ge 4096 s.size with h' | h'
 ·unfold Qbh at h;rw [xO h'] at h;cases h
 ·exact h'
def Qnh (s:ByteArray):PS:=⟨(Qbh s).toks ++ [⟨0,(Qbh s).tail,⟨#[]⟩⟩],0,0,0⟩
theorem Qn0 {s:ByteArray} (h:(Qbh s).e=0):(Qbh s).toks.length≤4096∧((Qbh s).toks.map fun t=>t.lead.size+t.text.size).sum+(Qbh s).tail.size=s.size:=by
 obtain ⟨h1,h2,_⟩:=(Qiw s).1 h;have h3:=Qy5 (Qbh s).toks (bl (Qbh s).tail);rw [h2,Qgd,Qgd] at h3;have h4:=Zf9 _ h1;have h5:=Qnz h;exact ⟨by omega,h3.symm⟩
theorem Zga {s:ByteArray} (h:(Qbh s).e=0):PSok (Qnh s):=by
 obtain ⟨h1,h2⟩:=Qn0 h;have h5:=Qnz h
 refine ⟨⟨(Qbh s).toks,_,rfl,rfl⟩,?_,?_,xZ _⟩
 ·show ((Qbh s).toks ++ [_]).length≤_
  rw [xB,List.length_singleton];omega
 ·show 0+(((Qbh s).toks ++ [_]).map _).sum≤_
  rw [List.map_append,List.sum_append];simp only [List.map_cons,List.map_nil,List.sum_cons,List.sum_nil]
  show 0+(_+((Qbh s).tail.size+0+0))≤_
  omega
end Go.Proofs.YtfjpemdejoejbaaGreat
