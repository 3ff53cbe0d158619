/- Part 21 -/
import Derived.Test.YtjidpkcjpgdafaaGreatSf20
set_option maxRecDepth 100000
set_option maxHeartbeats 4000000
namespace Go.Proofs.YtjidpkcjpgdafaaGreat
open Go.RowKit
theorem TrAt.keep {S:Nat→Prop} {w w':World} {t:Tr} {v:TV} (h:TrAt S w t v) (hb:Below w.heap.size w w'):TrAt S w' t v:=TrAt.move (fun _ h=>h) (fun k _ hlt=>hb.block k hlt) t v h
theorem TrAt.kid {S:Nat→Prop} {w:World} {t:Tr} {v:TV} (h:TrAt S w t v) {j:Nat} {k:Tr} (hk:t.kids[j]? = some k) :
  v.kl=t.kids.length∧∃ b off,v.ka=some ⟨b,off,none⟩∧S b∧∃ u:TV,w.cell? ⟨b,off+j*4,none⟩=some (.int .i64 u.kind)∧w.cell? ⟨b,off+j*4+1,none⟩=some (.string u.text)∧w.cell? ⟨b,off+j*4+2,none⟩=some (.slice u.la u.ll u.lc)∧w.cell? ⟨b,off+j*4+3,none⟩=some (.slice u.ka u.kl u.kc)∧TrAt S w k u:=by
 cases t with
 | mk kd tx ls ks =>
  unfold TrAt at h
  obtain ⟨_,_,_,h4,_,h6,_⟩:=h
  obtain ⟨b,off,hA,hb,hc⟩:=h6 (by intro e;rw [show (Tr.mk kd tx ls ks).kids=ks from rfl,e] at hk;simp at hk)
  exact ⟨h4,b,off,hA,hb,TrsAt.get ks off hc j k hk⟩
theorem TrAt.addr {S:Nat→Prop} {w:World} {t:Tr} {v:TV} (h:TrAt S w t v):t.kids.length=0∨∃ b off,v.ka=some ⟨b,off,none⟩:=by
 cases t with
 | mk kd tx ls ks =>
  unfold TrAt at h
  cases ks with
  | nil=>exact .inl rfl
  | cons a r =>
   obtain ⟨b,off,hA,_⟩:=h.2.2.2.2.2.1 (by simp)
   exact .inr ⟨b,off,hA⟩
theorem TrAt.at {S:Nat→Prop} {w:World} {t:Tr} {v:TV} {b off:Nat} (h:TrAt S w t v) (hA:v.ka=some ⟨b,off,none⟩) {j:Nat} {k:Tr} (hk:t.kids[j]? = some k) :
  ∃ u:TV,w.cell? ⟨b,off+j*4,none⟩=some (.int .i64 u.kind)∧w.cell? ⟨b,off+j*4+1,none⟩=some (.string u.text)∧w.cell? ⟨b,off+j*4+2,none⟩=some (.slice u.la u.ll u.lc)∧w.cell? ⟨b,off+j*4+3,none⟩=some (.slice u.ka u.kl u.kc)∧TrAt S w k u:=by
 obtain ⟨_,b',off',hA',_,u,hu⟩:=h.kid hk
 rw [hA] at hA'
 injection hA' with e
 injection e with e1 e2 _
 subst e1 e2
 exact ⟨u,hu⟩
theorem TrAt.kl {S:Nat→Prop} {w:World} {t:Tr} {v:TV} (h:TrAt S w t v):v.kl=t.kids.length∧v.ll=t.leads.length∧v.kind=t.kind∧v.text=t.text:=by
 cases t with
 | mk kd tx ls ks =>
  unfold TrAt at h
  exact ⟨h.2.2.2.1,h.2.2.1,h.1,h.2.1⟩
theorem TrAt.caps {S:Nat→Prop} {w:World} {t:Tr} {v:TV} (h:TrAt S w t v):v.ll≤v.lc∧v.kl≤v.kc:=by
 cases t with
 | mk kd tx ls ks =>
  unfold TrAt at h
  exact h.2.2.2.2.2.2
theorem Qi8 (t:Tr) (n:Nat):Qdx t (n+1)=Qez t.kids n:=by
 cases t with
 | mk kd tx ls ks=>rw [Qdx];rfl
theorem Qnd (t:Tr):Qdx t 0=false:=by
 cases t with
 | mk kd tx ls ks=>rw [Qdx]
theorem Qrv (l:List Tr) (n j:Nat) (k:Tr) (hk:l[j]? = some k):Qez (l.drop j) n=(Qdx k n && Qez (l.drop (j+1)) n):=by
 obtain ⟨hj,he⟩:=xP.1 hk
 rw [List.drop_eq_getElem_cons hj,he,Qez]
theorem Qj9 (l:List Tr) (n j:Nat) (h:l.length≤j):Qez (l.drop j) n=true:=by
 rw [List.drop_eq_nil_of_le h,Qez]
mutual
def Qb7:Tr→Bool
 | .mk _ _ ls ks=>decide (ls.length≤140737488355328) && decide (ks.length≤140737488355328) && Qct ks
def Qct:List Tr→Bool
 | []=>true
 | t :: r=>Qb7 t && Qct r
end
theorem Qlf:(l:List Tr)→(j:Nat)→(k:Tr)→Qct l=true→l[j]? = some k→Qb7 k=true
 | [],j,k,_,h=>by simp at h
 | a :: r,j,k,hs,h=>by
  unfold Qct at hs
  rw [Bool.and_eq_true] at hs
  cases j with
  | zero=>simp at h;subst h;exact hs.1
  | succ j=>exact Qlf r j k hs.2 (by simpa using h)
theorem Qhf {t:Tr} (h:Qb7 t=true):t.leads.length≤140737488355328∧t.kids.length≤140737488355328∧∀ (j:Nat) (k:Tr),t.kids[j]? = some k→Qb7 k=true:=by
 cases t with
 | mk kd tx ls ks =>
  unfold Qb7 at h
  simp only [Bool.and_eq_true,decide_eq_true_eq] at h
  exact ⟨h.1.1,h.1.2,fun j k hk=>Qlf ks j k h.2 hk⟩
theorem Qrw (n:Nat):∀ (S:Nat→Prop) (t:Tr) (v:TV) (w:World),n≤60→TrAt S w t v→Qb7 t=true →
  Calls Tryz.prog 79 #[.agg #[.int .i64 v.kind,.string v.text,.slice v.la v.ll v.lc,.slice v.ka v.kl v.kc],.int .i64 n] w fun e w'=>e = .returned (.bool (Qdx t n))∧Below w.heap.size w w':=by
 induction n with
 | zero =>
  intro S t v w _ _ _
  have HR:=hQ (Qnd t)
  go_enter Tryz.func79,Tryz.ntmps79
  go_wp2
  go_ret
  exact ⟨by rw [HR.out];rfl,(xC _ _).alloc (xA _) _⟩
 | succ n ih =>
  intro S t v w hn h hs
  obtain ⟨_,hk1,hk2⟩:=Qhf hs
  have HK2:=hQ hk2
  have HIH:=hQ ih
  have hkl:=h.kl.1
  have hadr:=h.addr
  obtain ⟨vk,vx,vla,vll,vlc,vka,vkl,vkc⟩:=v
  simp only at hkl hadr
  subst hkl
  have HN:=hQ (show n≤60 from by omega)
  have hn0:((n:Int)+1==0)=false:=Qdh (by omega)
  have hn60:(n:Int)≤60:=by omega
  have hnw:(n:Int)+1-1=(n:Int):=by omega
  have HT:=hQ h
  clear h hs hk2 ih hn
  rcases hadr with h0|⟨b,off,rfl⟩
  ·have HKL:=hQ h0
   clear h0
   go_enter Tryz.func79,Tryz.ntmps79
   go_wp2
   go_loopg [12] t.kids.length (fun g u12 wr=>∃ j:Nat,u12 = .int .i64 j∧j+g=t.kids.length∧Below w.heap.size w wr∧Qdx t (n+1)=Qez (t.kids.drop j) n)
   case atStart=>exact ⟨0,rfl,by omega,(xC _ _).alloc (xA _) _,Qi8 t n⟩
   case round =>
    obtain ⟨j,rfl,hj,hb,hw⟩:=hrel
    have HB:=hQ hb
    have HJ:=hQ hj
    have HW:=hQ hw
    clear hj hb hw
    have hlt:¬ j<t.kids.length:=by have:=HKL.out;omega
    have HR:=hQ (HW.out.trans (Qj9 t.kids n j (by omega)))
    go_wp2
    go_ret
    exact ⟨by rw [HR.out];rfl,HB.out⟩
  ·skip
   go_enter Tryz.func79,Tryz.ntmps79
   go_wp2
   go_loopg [12] t.kids.length (fun g u12 wr=>∃ j:Nat,u12 = .int .i64 j∧j+g=t.kids.length∧Below w.heap.size w wr∧Qdx t (n+1)=Qez (t.kids.drop j) n)
   case atStart=>exact ⟨0,rfl,by omega,(xC _ _).alloc (xA _) _,Qi8 t n⟩
   case round =>
    obtain ⟨j,rfl,hj,hb,hw⟩:=hrel
    have HB:=hQ hb
    have HJ:=hQ hj
    have HW:=hQ hw
    clear hj hb hw
    by_cases hlt:j<t.kids.length
    ·obtain ⟨k,hk⟩:∃ k,t.kids[j]? = some k:=⟨_,xF hlt⟩
     obtain ⟨u,c0,c1,c2,c3,hu⟩:=(HT.out.keep HB.out).at rfl hk
     have HU:=hQ hu
     have HSK:=hQ (HK2.out j k hk)
     have HLT:=hQ hlt
     have HAT:=hQ (HW.out.trans (Qrv t.kids n j k hk))
     have hj0:(0:Int)≤(j:Int):=by omega
     have hj1:(j:Int)<(t.kids.length:Int):=by omega
     have hj2:(j:Int)+1≤140737488355328:=by omega
     clear hk hu
     cases hwk:Qdx k n
     ·have HR:=hQ (show Qdx t (n+1)=false from by rw [HAT.out,hwk];rfl)
      go_wp2_with (go_at_call 79;refine (HIH.out S k u _ HN.out (HU.out.keep ((xC _ _).alloc (xA _) _)) HSK.out).mono ?_;rintro e w2 ⟨rfl,hb2⟩;have HB2:=hQ ((HB.out.alloc HB.out.size (.cells #[.int .i64 u.kind,.string u.text,.slice u.la u.ll u.lc,.slice u.ka u.kl u.kc] 29)).trans (hb2.mono (by have:=HB.out.size;simp;omega)));clear hb2)
      go_ret
      exact ⟨by rw [HR.out];rfl,HB2.out⟩
     ·have HR:=hQ (show Qdx t (n+1)=Qez (t.kids.drop (j+1)) n from by rw [HAT.out,hwk,Bool.true_and])
      go_wp2_with (go_at_call 79;refine (HIH.out S k u _ HN.out (HU.out.keep ((xC _ _).alloc (xA _) _)) HSK.out).mono ?_;rintro e w2 ⟨rfl,hb2⟩;have HB2:=hQ ((HB.out.alloc HB.out.size (.cells #[.int .i64 u.kind,.string u.text,.slice u.la u.ll u.lc,.slice u.ka u.kl u.kc] 29)).trans (hb2.mono (by have:=HB.out.size;simp;omega)));clear hb2)
      go_roundg (gk-1)
      case measure=>have:=HJ.out;have:=HLT.out;omega
      case rel=>exact ⟨j+1,by go_num,by have:=HJ.out;have:=HLT.out;omega,HB2.out,HR.out⟩
    ·have HR:=hQ (HW.out.trans (Qj9 t.kids n j (by omega)))
     go_wp2
     go_ret
     exact ⟨by rw [HR.out];rfl,HB.out⟩
end Go.Proofs.YtjidpkcjpgdafaaGreat
namespace Go.Proofs.YtjidpkcjpgdafaaGreat
def Qdi:List Part→Int→List Int
 | [],_=>[]
 | x :: r,n=>List.replicate (Qeb x n).toNat x.kids ++ Qdi r n
mutual
def Qau:Tr→Bool
 | .mk kd x _ ks=>(Qb6 (Qae kd) ks.length).2 && Qa4 (Qae kd) x && Qc9 ks (Qdi (Qae kd) (Qb6 (Qae kd) ks.length).1)
def Qc9:List Tr→List Int→Bool
 | [],_=>true
 | _ :: _,[]=>true
 | k :: r,s :: ss=>Qd9 s k.kind && Qau k && Qc9 r ss
end
theorem Qim (t:Tr):Qau t=((Qb6 (Qae t.kind) t.kids.length).2 && Qa4 (Qae t.kind) t.text && Qc9 t.kids (Qdi (Qae t.kind) (Qb6 (Qae t.kind) t.kids.length).1)):=by
 cases t with
 | mk kd x ls ks=>rw [Qau];rfl
theorem Qi9 (k:Tr) (r:List Tr) (s:Int) (ss:List Int):Qc9 (k :: r) (s :: ss)=(Qd9 s k.kind && Qau k && Qc9 r ss):=by rw [Qc9]
theorem Qhg (ss:List Int):Qc9 [] ss=true:=by rw [Qc9]
def Qmj:List Part→Nat
 | []=>0
 | x :: r=>(if x.series then 0 else if x.kids≠0 then 1 else 0)+Qmj r
def Qe2:List Part→Nat
 | []=>0
 | x :: r=>(if x.series then 1 else 0)+Qe2 r
def Qp9:List Part→Int→Int
 | [],_=>0
 | x :: r,n=>Qeb x n+Qp9 r n
theorem Qtm (l:List Part) (n:Int):Qp9 l n=Qmj l+Qe2 l*n:=by
 induction l with
 | nil=>simp [Qp9,Qmj,Qe2]
 | cons x r ih =>
  rw [Qp9,Qmj,Qe2,ih]
  unfold Qeb
  cases hs:x.series
  ·by_cases hk:x.kids≠0
   ·rw [xN (by decide),xO hk,xN (by decide),xO hk,xN (by decide),Nat.zero_add]
    omega
   ·rw [xN (by decide),xN hk,xN (by decide),xN hk,xN (by decide),Nat.zero_add,Nat.zero_add]
    omega
  ·rw [xO rfl,xO rfl,xO rfl]
   rw [show ((1+Qe2 r:Nat):Int)=1+(Qe2 r:Int) from by omega,Int.add_mul,Int.one_mul]
   omega
theorem Qin (l:List Part):∀ a b k,(Qcz l a b k).2.2=k-Qmj l:=by
 induction l with
 | nil=>intro a b k;simp [Qcz,Qmj]
 | cons x r ih =>
  intro a b k
  rw [Qcz,Qmj]
  cases hs:x.series
  ·by_cases hk:x.kids≠0
   ·rw [xN (by decide),xO hk,ih,xN (by decide),xO hk]
    omega
   ·rw [xN (by decide),xN hk,ih,xN (by decide),xN hk]
    omega
  ·rw [xO rfl,ih,xO rfl]
   omega
theorem Qrx (l:List Part) (h:Qe2 l=0):∀ a b k,(Qcz l a b k).1=a∧(Qcz l a b k).2.1=b:=by
 induction l with
 | nil=>intro a b k;exact ⟨rfl,rfl⟩
 | cons x r ih =>
  intro a b k
  rw [Qe2] at h
  rw [Qcz]
  cases hs:x.series
  ·rw [hs] at h
   have hr:=ih (by simpa using h)
   by_cases hk:x.kids≠0
   ·rw [xN (by decide),xO hk]
    exact hr _ _ _
   ·rw [xN (by decide),xN hk]
    exact hr _ _ _
  ·rw [hs] at h
   simp at h
theorem Qtn (l:List Part) (hl:∀ x∈l,0≤x.least):∀ a b k,0≤a→0≤(Qcz l a b k).1:=by
 induction l with
 | nil=>intro a b k h;exact h
 | cons x r ih =>
  intro a b k h
  have hr:=ih (fun y hy=>hl y (List.mem_cons_of_mem _ hy))
  have hx:=hl x (List.mem_cons_self ..)
  rw [Qcz]
  split
  ·exact hr _ _ _ hx
  ·split
   ·exact hr _ _ _ h
   ·exact hr _ _ _ h
theorem Qo1:∀ n:Fin 23,Qe2 (Qae ((n.val:Nat):Int))≤1∧∀ x∈Qae ((n.val:Nat):Int),0≤x.least:=by decide
theorem Qry (k:Int):Qe2 (Qae k)≤1∧∀ x∈Qae k,0≤x.least:=by
 by_cases h:k≤0∨23≤k
 ·rw [Qee h]
  exact ⟨by decide,fun x hx=>by simp at hx⟩
 ·have:=Qo1 ⟨k.toNat,by omega⟩
  rw [show (((⟨k.toNat,by omega⟩:Fin 23).val:Nat):Int)=k from by show ((k.toNat:Nat):Int)=k;omega] at this
  exact this
theorem Qqa {kd k:Int} (h:(Qb6 (Qae kd) k).2=true):0≤(Qb6 (Qae kd) k).1∧Qp9 (Qae kd) (Qb6 (Qae kd) k).1=k:=by
 obtain ⟨_,hk0,hne⟩:=Qmi _ _ h
 obtain ⟨hs,hl⟩:=Qry kd
 have h0:=Qtn _ hl 0 0 k (Int.le_refl _)
 have h1:=Qin (Qae kd) 0 0 k
 have hf:Qb6 (Qae kd) k=((Qcz (Qae kd) 0 0 k).2.2,decide ((Qcz (Qae kd) 0 0 k).1≤(Qcz (Qae kd) 0 0 k).2.2) && decide ((Qcz (Qae kd) 0 0 k).2.2≤(Qcz (Qae kd) 0 0 k).2.1)):=by
  unfold Qb6
  rw [xN (by intro e;rcases e with e | e;exact hne e;omega)]
 rw [hf] at h ⊢
 simp only [Bool.and_eq_true,decide_eq_true_eq] at h
 rw [Qtm]
 show 0≤(Qcz (Qae kd) 0 0 k).2.2∧_+_*(Qcz (Qae kd) 0 0 k).2.2=k
 refine ⟨by omega,?_⟩
 rcases Nat.le_one_iff_eq_zero_or_eq_one.1 hs with hz | hz
 ·obtain ⟨e1,e2⟩:=Qrx _ hz 0 0 k
  rw [hz]
  rw [e1,e2] at h
  omega
 ·rw [hz,h1]
  omega
theorem Qka (l:List Part) (n:Int) (hn:0≤n):0≤Qp9 l n:=by
 rw [Qtm]
 have:0≤(Qe2 l:Int)*n:=Int.mul_nonneg (by omega) hn
 omega
theorem Qh3 (x:Part) (n:Int) (hn:0≤n):0≤Qeb x n:=by
 unfold Qeb
 split
 ·exact hn
 ·split <;> decide
theorem Qv3 {t k:Tr} {j:Nat} (h:t.kids[j]? = some k):SizeOf.sizeOf k<SizeOf.sizeOf t:=by
 cases t with
 | mk kd x ls ks =>
  have:=List.sizeOf_lt_of_mem (yA (show ks[j]? = some k from h))
  rw [Tr.mk.sizeOf_spec]
  omega
end Go.Proofs.YtjidpkcjpgdafaaGreat
