/- Part 22 -/
import Derived.Test.YtfjpemdejoejbaaGreatTt19
import Derived.Test.YtfjpemdejoejbaaGreatTt20
import Derived.Test.YtfjpemdejoejbaaGreatTt21
set_option maxRecDepth 100000
set_option maxHeartbeats 4000000
namespace Go.Proofs.YtfjpemdejoejbaaGreat
open Go.RowKit
theorem TrAt.keep {S:Nat→Prop} {w w':World} {t:Tr} {v:TV} (h:TrAt S w t v) (hb:Below w.heap.size w w'):TrAt S w' t v:=TrAt.move (fun _ h=>h) (fun k _ hlt=>hb.block k hlt) t v h
theorem TrAt.kid {S:Nat→Prop} {w:World} {t:Tr} {v:TV} (h:TrAt S w t v) {j:Nat} {k:Tr} (hk:t.kids[j]? = some k) :
  v.kl=t.kids.length∧∃ b off,v.ka=some ⟨b,off,none⟩∧S b∧∃ u:TV,w.cell? ⟨b,off+j*4,none⟩=some (.int .i64 u.kind)∧w.cell? ⟨b,off+j*4+1,none⟩=some (.string u.text)∧w.cell? ⟨b,off+j*4+2,none⟩=some (.slice u.la u.ll u.lc)∧w.cell? ⟨b,off+j*4+3,none⟩=some (.slice u.ka u.kl u.kc)∧TrAt S w k u:=by
 cases t with
 | mk kd tx ls ks =>
  unfold TrAt at h;obtain ⟨_,_,_,h4,_,h6,_⟩:=h;obtain ⟨b,off,hA,hb,hc⟩:=h6 (by intro e;rw [show (Tr.mk kd tx ls ks).kids=ks from rfl,e] at hk;simp at hk);exact ⟨h4,b,off,hA,hb,TrsAt.get ks off hc j k hk⟩
theorem TrAt.addr {S:Nat→Prop} {w:World} {t:Tr} {v:TV} (h:TrAt S w t v):t.kids.length=0∨∃ b off,v.ka=some ⟨b,off,none⟩:=by
 cases t with
 | mk kd tx ls ks =>
  unfold TrAt at h;cases ks with
  | nil=>exact .inl rfl
  | cons a r =>
   obtain ⟨b,off,hA,_⟩:=h.2.2.2.2.2.1 (by simp);exact .inr ⟨b,off,hA⟩
theorem TrAt.at {S:Nat→Prop} {w:World} {t:Tr} {v:TV} {b off:Nat} (h:TrAt S w t v) (hA:v.ka=some ⟨b,off,none⟩) {j:Nat} {k:Tr} (hk:t.kids[j]? = some k) :
  ∃ u:TV,w.cell? ⟨b,off+j*4,none⟩=some (.int .i64 u.kind)∧w.cell? ⟨b,off+j*4+1,none⟩=some (.string u.text)∧w.cell? ⟨b,off+j*4+2,none⟩=some (.slice u.la u.ll u.lc)∧w.cell? ⟨b,off+j*4+3,none⟩=some (.slice u.ka u.kl u.kc)∧TrAt S w k u:=by
 obtain ⟨_,b',off',hA',_,u,hu⟩:=h.kid hk;rw [hA] at hA';injection hA' with e;injection e with e1 e2 _;subst e1 e2;exact ⟨u,hu⟩
theorem TrAt.kl {S:Nat→Prop} {w:World} {t:Tr} {v:TV} (h:TrAt S w t v):v.kl=t.kids.length∧v.ll=t.leads.length∧v.kind=t.kind∧v.text=t.text:=by
 cases t with
 | mk kd tx ls ks =>
  unfold TrAt at h;exact ⟨h.2.2.2.1,h.2.2.1,h.1,h.2.1⟩
theorem TrAt.caps {S:Nat→Prop} {w:World} {t:Tr} {v:TV} (h:TrAt S w t v):v.ll≤v.lc∧v.kl≤v.kc:=by
 cases t with
 | mk kd tx ls ks =>
  unfold TrAt at h;exact h.2.2.2.2.2.2
theorem Qjs (t:Tr) (n:Nat):Qd6 t (n+1)=Qfg t.kids n:=by
 cases t with
 | mk kd tx ls ks=>rw [Qd6];rfl
theorem Qok (t:Tr):Qd6 t 0=false:=by
 cases t with
 | mk kd tx ls ks=>rw [Qd6]
theorem Qty (l:List Tr) (n j:Nat) (k:Tr) (hk:l[j]? = some k):Qfg (l.drop j) n=(Qd6 k n && Qfg (l.drop (j+1)) n):=by
 obtain ⟨hj,he⟩:=xP.1 hk;rw [List.drop_eq_getElem_cons hj,he,Qfg]
theorem Qkn (l:List Tr) (n j:Nat) (h:l.length≤j):Qfg (l.drop j) n=true:=by
 rw [List.drop_eq_nil_of_le h,Qfg]
mutual
def Qbb:Tr→Bool
 | .mk _ _ ls ks=>decide (ls.length≤140737488355328) && decide (ks.length≤140737488355328) && Qc4 ks
def Qc4:List Tr→Bool
 | []=>true
 | t :: r=>Qbb t && Qc4 r
end
theorem Ql2:(l:List Tr)→(j:Nat)→(k:Tr)→Qc4 l=true→l[j]? = some k→Qbb k=true
 | [],j,k,_,h=>by simp at h
 | a :: r,j,k,hs,h=>by
  unfold Qc4 at hs;rw [Bool.and_eq_true] at hs;cases j with
  | zero=>simp at h;subst h;exact hs.1
  | succ j=>exact Ql2 r j k hs.2 (by simpa using h)
theorem Qby {t:Tr} (h:Qbb t=true):t.leads.length≤140737488355328∧t.kids.length≤140737488355328∧∀ (j:Nat) (k:Tr),t.kids[j]? = some k→Qbb k=true:=by
 cases t with
 | mk kd tx ls ks =>
  unfold Qbb at h;simp only [Bool.and_eq_true,decide_eq_true_eq] at h;exact ⟨h.1.1,h.1.2,fun j k hk=>Ql2 ks j k h.2 hk⟩
theorem Qtz (n:Nat):∀ (S:Nat→Prop) (t:Tr) (v:TV) (w:World),n≤60→TrAt S w t v→Qbb t=true →
  Calls Tryz.prog 53 #[.agg #[.int .i64 v.kind,.string v.text,.slice v.la v.ll v.lc,.slice v.ka v.kl v.kc],.int .i64 n] w fun e w'=>e = .returned (.bool (Qd6 t n))∧Below w.heap.size w w':=by
 induction n with
 | zero =>
  intro S t v w _ _ _;have HR:=hQ (Qok t)
  go_enter Tryz.func53,Tryz.ntmps53
  go_wp2
  go_ret
  exact ⟨by rw [HR.out];rfl,(xC _ _).alloc (xA _) _⟩
 | succ n ih =>
  intro S t v w hn h hs;obtain ⟨_,hk1,hk2⟩:=Qby hs;have HK2:=hQ hk2;have HIH:=hQ ih;have hkl:=h.kl.1;have hadr:=h.addr;obtain ⟨vk,vx,vla,vll,vlc,vka,vkl,vkc⟩:=v;simp only at hkl hadr;subst hkl;have HN:=hQ (show n≤60 from by omega);have hn0:((n:Int)+1==0)=false:=Qcm (by omega);have hn60:(n:Int)≤60:=by omega
  have hnw:(n:Int)+1-1=(n:Int):=by omega
  have HT:=hQ h;clear h hs hk2 ih hn
  rcases hadr with h0|⟨b,off,rfl⟩
  ·have HKL:=hQ h0;clear h0
   go_enter Tryz.func53,Tryz.ntmps53
   go_wp2
   go_loopg [12] t.kids.length (fun g u12 wr=>∃ j:Nat,u12 = .int .i64 j∧j+g=t.kids.length∧Below w.heap.size w wr∧Qd6 t (n+1)=Qfg (t.kids.drop j) n)
   case atStart=>exact ⟨0,rfl,by omega,(xC _ _).alloc (xA _) _,Qjs t n⟩
   case round =>
    obtain ⟨j,rfl,hj,hb,hw⟩:=hrel;have HB:=hQ hb;have HJ:=hQ hj;have HW:=hQ hw;clear hj hb hw;have hlt:¬ j<t.kids.length:=by have:=HKL.out;omega
    have HR:=hQ (HW.out.trans (Qkn t.kids n j (by omega)))
    go_wp2
    go_ret
    exact ⟨by rw [HR.out];rfl,HB.out⟩
  ·skip
   go_enter Tryz.func53,Tryz.ntmps53
   go_wp2
   go_loopg [12] t.kids.length (fun g u12 wr=>∃ j:Nat,u12 = .int .i64 j∧j+g=t.kids.length∧Below w.heap.size w wr∧Qd6 t (n+1)=Qfg (t.kids.drop j) n)
   case atStart=>exact ⟨0,rfl,by omega,(xC _ _).alloc (xA _) _,Qjs t n⟩
   case round =>
    obtain ⟨j,rfl,hj,hb,hw⟩:=hrel;have HB:=hQ hb;have HJ:=hQ hj;have HW:=hQ hw;clear hj hb hw
    by_cases hlt:j<t.kids.length
    ·obtain ⟨k,hk⟩:∃ k,t.kids[j]? = some k:=⟨_,xF hlt⟩;obtain ⟨u,c0,c1,c2,c3,hu⟩:=(HT.out.keep HB.out).at rfl hk;have HU:=hQ hu;have HSK:=hQ (HK2.out j k hk);have HLT:=hQ hlt;have HAT:=hQ (HW.out.trans (Qty t.kids n j k hk));have hj0:(0:Int)≤(j:Int):=by omega
     have hj1:(j:Int)<(t.kids.length:Int):=by omega
     have hj2:(j:Int)+1≤140737488355328:=by omega
     clear hk hu
     cases hwk:Qd6 k n
     ·have HR:=hQ (show Qd6 t (n+1)=false from by rw [HAT.out,hwk];rfl);go_wp2_with (go_at_call 53;refine (HIH.out S k u _ HN.out (HU.out.keep ((xC _ _).alloc (xA _) _)) HSK.out).mono ?_;rintro e w2 ⟨rfl,hb2⟩;have HB2:=hQ ((HB.out.alloc HB.out.size (.cells #[.int .i64 u.kind,.string u.text,.slice u.la u.ll u.lc,.slice u.ka u.kl u.kc] 25)).trans (hb2.mono (by have:=HB.out.size;simp;omega)));clear hb2)
      go_ret
      exact ⟨by rw [HR.out];rfl,HB2.out⟩
     ·have HR:=hQ (show Qd6 t (n+1)=Qfg (t.kids.drop (j+1)) n from by rw [HAT.out,hwk,Bool.true_and]);go_wp2_with (go_at_call 53;refine (HIH.out S k u _ HN.out (HU.out.keep ((xC _ _).alloc (xA _) _)) HSK.out).mono ?_;rintro e w2 ⟨rfl,hb2⟩;have HB2:=hQ ((HB.out.alloc HB.out.size (.cells #[.int .i64 u.kind,.string u.text,.slice u.la u.ll u.lc,.slice u.ka u.kl u.kc] 25)).trans (hb2.mono (by have:=HB.out.size;simp;omega)));clear hb2)
      go_roundg (gk-1)
      case measure=>have:=HJ.out;have:=HLT.out;omega
      case rel=>exact ⟨j+1,by go_num,by have:=HJ.out;have:=HLT.out;omega,HB2.out,HR.out⟩
    ·have HR:=hQ (HW.out.trans (Qkn t.kids n j (by omega)))
     go_wp2
     go_ret
     exact ⟨by rw [HR.out];rfl,HB.out⟩
end Go.Proofs.YtfjpemdejoejbaaGreat
namespace Go.Proofs.YtfjpemdejoejbaaGreat
def Qdp:List Part→Int→List Int
 | [],_=>[]
 | x :: r,n=>List.replicate (Qep x n).toNat x.kids ++ Qdp r n
mutual
def Qaj:Tr→Bool
 | .mk kd x _ ks=>(Qck (Qae kd) ks.length).2 && Qau (Qae kd) x && Qdj ks (Qdp (Qae kd) (Qck (Qae kd) ks.length).1)
def Qdj:List Tr→List Int→Bool
 | [],_=>true
 | _ :: _,[]=>true
 | k :: r,s :: ss=>Qed s k.kind && Qaj k && Qdj r ss
end
theorem Qhg (t:Tr):Qaj t=((Qck (Qae t.kind) t.kids.length).2 && Qau (Qae t.kind) t.text && Qdj t.kids (Qdp (Qae t.kind) (Qck (Qae t.kind) t.kids.length).1)):=by
 cases t with
 | mk kd x ls ks=>rw [Qaj];rfl
theorem Qjt (k:Tr) (r:List Tr) (s:Int) (ss:List Int):Qdj (k :: r) (s :: ss)=(Qed s k.kind && Qaj k && Qdj r ss):=by rw [Qdj]
theorem Qhz (ss:List Int):Qdj [] ss=true:=by rw [Qdj]
def Qnc:List Part→Nat
 | []=>0
 | x :: r=>(if x.series then 0 else if x.kids≠0 then 1 else 0)+Qnc r
def Qfj:List Part→Nat
 | []=>0
 | x :: r=>(if x.series then 1 else 0)+Qfj r
def Qry:List Part→Int→Int
 | [],_=>0
 | x :: r,n=>Qep x n+Qry r n
theorem Qv3 (l:List Part) (n:Int):Qry l n=Qnc l+Qfj l*n:=by
 induction l with
 | nil=>simp [Qry,Qnc,Qfj]
 | cons x r ih =>
  rw [Qry,Qnc,Qfj,ih];unfold Qep
  cases hs:x.series
  ·by_cases hk:x.kids≠0
   ·rw [xN (by decide),xO hk,xN (by decide),xO hk,xN (by decide),Nat.zero_add];omega
   ·rw [xN (by decide),xN hk,xN (by decide),xN hk,xN (by decide),Nat.zero_add,Nat.zero_add];omega
  ·rw [xO rfl,xO rfl,xO rfl];rw [show ((1+Qfj r:Nat):Int)=1+(Qfj r:Int) from by omega,Int.add_mul,Int.one_mul];omega
theorem Qi7 (l:List Part):∀ a b k,(Qdb l a b k).2.2=k-Qnc l:=by
 induction l with
 | nil=>intro a b k;simp [Qdb,Qnc]
 | cons x r ih =>
  intro a b k;rw [Qdb,Qnc]
  cases hs:x.series
  ·by_cases hk:x.kids≠0
   ·rw [xN (by decide),xO hk,ih,xN (by decide),xO hk];omega
   ·rw [xN (by decide),xN hk,ih,xN (by decide),xN hk];omega
  ·rw [xO rfl,ih,xO rfl];omega
theorem Qt0 (l:List Part) (h:Qfj l=0):∀ a b k,(Qdb l a b k).1=a∧(Qdb l a b k).2.1=b:=by
 induction l with
 | nil=>intro a b k;exact ⟨rfl,rfl⟩
 | cons x r ih =>
  intro a b k;rw [Qfj] at h;rw [Qdb]
  cases hs:x.series
  ·rw [hs] at h;have hr:=ih (by simpa using h)
   by_cases hk:x.kids≠0
   ·rw [xN (by decide),xO hk];exact hr _ _ _
   ·rw [xN (by decide),xN hk];exact hr _ _ _
  ·rw [hs] at h;simp at h
theorem Qv4 (l:List Part) (hl:∀ x∈l,0≤x.least):∀ a b k,0≤a→0≤(Qdb l a b k).1:=by
 induction l with
 | nil=>intro a b k h;exact h
 | cons x r ih =>
  intro a b k h;have hr:=ih (fun y hy=>hl y (List.mem_cons_of_mem _ hy));have hx:=hl x (List.mem_cons_self ..);rw [Qdb]
  split
  ·exact hr _ _ _ hx
  ·split
   ·exact hr _ _ _ h
   ·exact hr _ _ _ h
theorem Qqm:∀ n:Fin 23,Qfj (Qae ((n.val:Nat):Int))≤1∧∀ x∈Qae ((n.val:Nat):Int),0≤x.least:=by decide
theorem Qt1 (k:Int):Qfj (Qae k)≤1∧∀ x∈Qae k,0≤x.least:=by
 by_cases h:k≤0∨23≤k
 ·rw [Qer h];exact ⟨by decide,fun x hx=>by simp at hx⟩
 ·have:=Qqm ⟨k.toNat,by omega⟩
  rw [show (((⟨k.toNat,by omega⟩:Fin 23).val:Nat):Int)=k from by show ((k.toNat:Nat):Int)=k;omega] at this;exact this
theorem Qrz {kd k:Int} (h:(Qck (Qae kd) k).2=true):0≤(Qck (Qae kd) k).1∧Qry (Qae kd) (Qck (Qae kd) k).1=k:=by
 obtain ⟨_,hk0,hne⟩:=Qnb _ _ h;obtain ⟨hs,hl⟩:=Qt1 kd;have h0:=Qv4 _ hl 0 0 k (Int.le_refl _);have h1:=Qi7 (Qae kd) 0 0 k
 have hf:Qck (Qae kd) k=((Qdb (Qae kd) 0 0 k).2.2,decide ((Qdb (Qae kd) 0 0 k).1≤(Qdb (Qae kd) 0 0 k).2.2) && decide ((Qdb (Qae kd) 0 0 k).2.2≤(Qdb (Qae kd) 0 0 k).2.1)):=by
  unfold Qck;rw [xN (by intro e;rcases e with e | e;exact hne e;omega)]
 rw [hf] at h ⊢;simp only [Bool.and_eq_true,decide_eq_true_eq] at h;rw [Qv3]
 show 0≤(Qdb (Qae kd) 0 0 k).2.2∧_+_*(Qdb (Qae kd) 0 0 k).2.2=k
 refine ⟨by omega,?_⟩
 rcases Nat.le_one_iff_eq_zero_or_eq_one.1 hs with hz | hz
 ·obtain ⟨e1,e2⟩:=Qt0 _ hz 0 0 k;rw [hz];rw [e1,e2] at h;omega
 ·rw [hz,h1];omega
theorem Qko (l:List Part) (n:Int) (hn:0≤n):0≤Qry l n:=by
 rw [Qv3];have:0≤(Qfj l:Int)*n:=Int.mul_nonneg (by omega) hn
 omega
theorem Qil (x:Part) (n:Int) (hn:0≤n):0≤Qep x n:=by
 unfold Qep
 split
 ·exact hn
 ·split <;> decide
theorem Qzu {t k:Tr} {j:Nat} (h:t.kids[j]? = some k):SizeOf.sizeOf k<SizeOf.sizeOf t:=by
 cases t with
 | mk kd x ls ks =>
  have:=List.sizeOf_lt_of_mem (yA (show ks[j]? = some k from h))
  rw [Tr.mk.sizeOf_spec];omega
theorem Qe8:(a b:List Tr)→Qc4 (a ++ b)=(Qc4 a && Qc4 b)
 | [],b=>by rw [xU,Qc4,Bool.true_and]
 | t :: r,b=>by rw [xV,Qc4,Qc4,Qe8 r b,Bool.and_assoc]
theorem Ql5 (t:Tr) (h:Qbb t=true):Qc4 [t] = true:=by rw [Qc4,h,Qc4];rfl
def Qoo (T:Int→PS→Option (Tr × PS)):Prop:=∀ s p t q,T s p=some (t,q)→Qbb t=true
theorem Qop {T:Int→PS→Option (Tr × PS)} (hT:Qoo T) {x:Part}:∀ (n:Nat) (more:Bool) (ks:List Tr) (cs:List ByteArray) (p:PS) (r:List Tr × List ByteArray × PS),Qcu T x n more ks cs p=some r→Qc4 ks=true→Qc4 r.1=true:=by
 intro n
 induction n with
 | zero =>
  intro more ks cs p r h hs
  cases more
  ·have:=Qes h
   subst this;exact hs
  ·unfold Qcu at h;cases h
 | succ n ih =>
  intro more ks cs p r h hs
  cases more
  ·have:=Qes h
   subst this;exact hs
  ·obtain ⟨t,q,ht,hw⟩:=Qgn h;have h1:Qc4 (ks ++ [t])=true:=by rw [Qe8,hs,Ql5 t (hT _ _ _ _ ht)];rfl
   rcases hw with ⟨_,_,hs'⟩|⟨_,_,hs'⟩|⟨_,hs'⟩
   ·exact ih _ _ _ _ _ hs' h1
   ·exact ih _ _ _ _ _ hs' h1
   ·exact ih _ _ _ _ _ hs' h1
theorem Qt2 {T:Int→PS→Option (Tr × PS)} (hT:Qoo T) {n:Nat} (hn:n≤65536) {kind:Int}:∀ (l:List Part) (text:ByteArray) (leads:List ByteArray) (kids:List Tr) (commas:List ByteArray) (p:PS) (r:Tr × PS),Qff T n kind l text leads kids commas p=some r →
  leads.length+l.length≤100→kids.length+l.length*65536≤1000000→commas.length≤65536→Qc4 kids=true→Qbb r.1=true:=by
 intro l
 induction l with
 | nil =>
  intro text leads kids commas p r h h1 h2 h3 h4;have:=Qoj h
  subst this;rw [xG] at h1 h2;unfold Qbb;simp only [Bool.and_eq_true,decide_eq_true_eq,xB];exact ⟨⟨by omega,by omega⟩,h4⟩
 | cons x l ih =>
  intro text leads kids commas p r h h1 h2 h3 h4;rw [xD] at h1 h2
  rcases Qlz h with ⟨_,s,hs,hg⟩|⟨_,_,t,q,ht,hg⟩|⟨_,_,hg⟩
  ·have hl:=Qkm _ _ _ _ _ _ hs;simp only [xG] at hl;refine ih _ _ _ _ _ _ hg (by omega) (by rw [xB];omega) (by omega) ?_;rw [Qe8,h4,Qop hT _ _ _ _ _ _ hs (by rw [Qc4])];rfl
  ·refine ih _ _ _ _ _ _ hg (by omega) (by rw [xB,List.length_singleton];omega) h3 ?_;rw [Qe8,h4,Ql5 t (hT _ _ _ _ ht)];rfl
  ·have key:∀ s:ByteArray × List ByteArray × PS,s.2.1.length≤leads.length+1→Qff T n kind l s.1 s.2.1 kids commas s.2.2=some r→Qbb r.1=true:=fun s h5 h6=>ih s.1 s.2.1 kids commas s.2.2 r h6 (xQ (Nat.add_le_add_right h5 _) (by omega)) (xQ (Nat.add_le_add_left (Nat.mul_le_mul_right 65536 (Nat.le_succ l.length)) kids.length) h2) h3 h4
   exact key _ (Ql0 x text leads p) hg
theorem Qkp {T:Int→PS→Option (Tr × PS)} (hT:Qoo T) {n:Nat} (hn:n≤65536) {kind:Int} {p:PS} {r:Tr × PS} (h:Qff T n kind (Qae kind) ⟨#[]⟩ [] [] [] p=some r):Qbb r.1=true:=by
 have:=Qhe kind
 have h1:([]:List ByteArray).length+(Qae kind).length≤100:=by rw [xG];omega
 have h2:([]:List Tr).length+(Qae kind).length*65536≤1000000:=by rw [xG];omega
 exact Qt2 hT hn (Qae kind) ⟨#[]⟩ [] [] [] p r h h1 h2 (xZ _) (by rw [Qc4])
theorem Qv6 {T:Int→PS→Option (Tr × PS)} (hT:Qoo T) {s:Int}:∀ (n:Nat) (t:Tr) (p:PS) (r:Tr × PS),Qy3 T s n t p=some r→Qbb t=true→Qbb r.1=true:=by
 intro n
 induction n with
 | zero=>intro t p r h _;unfold Qy3 at h;cases h
 | succ n ih =>
  intro t p r h ht
  rcases Qon h with (⟨_,_,u,q,hu,hn⟩|⟨_,_,he⟩) | ⟨_,he⟩
  ·refine ih _ _ _ hn ?_;have h1:=hT _ _ _ _ hu;unfold Qbb;simp only [xD,xG];rw [Qc4,ht,Qc4,h1,Qc4];rfl
  ·subst he;exact ht
  ·subst he;exact ht
theorem Qt3:∀ n,n≤65536→Qoo (Qgj n):=by
 intro n
 induction n with
 | zero=>intro _ s p t q h;unfold Qgj at h;cases h
 | succ n ih =>
  intro hn s p t q h;have hT:=ih (by omega)
  rcases Ql4 h with ⟨_,he⟩|⟨_,t0,q0,hN,ho⟩
  ·injection he with h1 _;subst h1;rfl
  ·exact Qv6 hT _ _ _ _ ho (Qkp hT (by omega) hN)
theorem Zco:∀ n,n≤65536→Qtu (Qgj n):=by
 intro n
 induction n with
 | zero=>intro _ b s p t q w h;unfold Qgj at h;cases h
 | succ n ih =>
  intro hn;have hT:=ih (by omega);exact Zcn hT (Qv5 hT (by omega))
theorem Zcp {n:Nat} (hn:n≤65536):Zcj (fun k p=>Qff (Qgj n) n k (Qae k) ⟨#[]⟩ [] [] [] p):=Qv5 (Zco n hn) hn
theorem Qt4:Qag [] = 0:=by decide
theorem Qv7 (ts:List Tok) (tail:List UInt8):(Qj0 ts tail).length=(ts.map fun t=>t.lead.size+t.text.size).sum+tail.length:=by
 induction ts with
 | nil=>simp [Qj0]
 | cons t r ih =>
  unfold Qj0 at ih ⊢;rw [List.flatMap_cons,xT,xB,ih,xB,Qfe,Qfe,List.map_cons,List.sum_cons];omega
theorem Zcq (ts:List Tok) (h:∀ t∈ts,Qmy t):ts.length≤(ts.map fun t=>t.lead.size+t.text.size).sum:=by
 induction ts with
 | nil=>simp
 | cons t r ih =>
  have h1:=ih (fun u hu=>h u (List.mem_cons_of_mem _ hu));obtain ⟨h2,h3,_⟩:=h t (List.mem_cons_self ..)
  have h4:0<t.text.size:=by
   rcases Nat.eq_zero_or_pos t.text.size with h0 | h0
   ·exfalso
    have:bl t.text = []:=List.eq_nil_of_length_eq_zero (by rw [Qfe];exact h0)
    rw [this,Qt4] at h2;exact h3 h2.symm
   ·exact h0
  rw [xD,List.map_cons,List.sum_cons];omega
theorem Ql6 {s:ByteArray} (h:(Qb7 s).e=0):s.size≤4096:=by
 rcases Nat.lt_or_ge 4096 s.size with h' | h'
 ·unfold Qb7 at h;rw [xO h'] at h;cases h
 ·exact h'
def Qlo (s:ByteArray):PS:=⟨(Qb7 s).toks ++ [⟨0,(Qb7 s).tail,⟨#[]⟩⟩],0,0,0⟩
theorem Ql7 {s:ByteArray} (h:(Qb7 s).e=0):(Qb7 s).toks.length≤4096∧((Qb7 s).toks.map fun t=>t.lead.size+t.text.size).sum+(Qb7 s).tail.size=s.size:=by
 obtain ⟨h1,h2,_⟩:=(Qtb s).1 h;have h3:=Qv7 (Qb7 s).toks (bl (Qb7 s).tail);rw [h2,Qfe,Qfe] at h3;have h4:=Zcq _ h1;have h5:=Ql6 h;exact ⟨by omega,h3.symm⟩
theorem Zcr {s:ByteArray} (h:(Qb7 s).e=0):PSok (Qlo s):=by
 obtain ⟨h1,h2⟩:=Ql7 h;have h5:=Ql6 h
 refine ⟨⟨(Qb7 s).toks,_,rfl,rfl⟩,?_,?_,xZ _⟩
 ·show ((Qb7 s).toks ++ [_]).length≤_
  rw [xB,List.length_singleton];omega
 ·show 0+(((Qb7 s).toks ++ [_]).map _).sum≤_
  rw [List.map_append,List.sum_append];simp only [List.map_cons,List.map_nil,List.sum_cons,List.sum_nil]
  show 0+(_+((Qb7 s).tail.size+0+0))≤_
  omega
end Go.Proofs.YtfjpemdejoejbaaGreat
