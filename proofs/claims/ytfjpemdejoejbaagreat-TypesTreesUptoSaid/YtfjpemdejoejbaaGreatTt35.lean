/- Part 35 -/
import Derived.Test.YtfjpemdejoejbaaGreatTt34
set_option maxRecDepth 100000
set_option maxHeartbeats 4000000
namespace Go.Proofs.YtfjpemdejoejbaaGreat
open Go.RowKit
mutual
def Qav:Tr→Tr
 | .mk k x ls ks=>if k=8 then Zeu ks else .mk k x ls ks
def Zeu:List Tr→Tr
 | []=>noTr
 | t :: _=>Qav t
end
mutual
def Qa6:Tr→Nat
 | .mk k _ _ ks=>if k=8 then Qo8 ks+1 else 0
def Qo8:List Tr→Nat
 | []=>0
 | t :: _=>Qa6 t
end
theorem Qek {t k:Tr} {r:List Tr} (h8:t.kind=8) (hk:t.kids=k :: r):Qav t=Qav k∧Qa6 t=Qa6 k+1:=by
 cases t with
 | mk kd x ls ks =>
  have e1:kd=8:=h8;have e2:ks=k :: r:=hk;subst e1 e2
  constructor
  ·rw [Qav,xO rfl,Zeu]
  ·rw [Qa6,xO rfl,Qo8]
theorem Qel {t:Tr} (h8:t.kind≠8):Qav t=t∧Qa6 t=0:=by
 cases t with
 | mk kd x ls ks =>
  have e1:¬ kd=8:=h8
  constructor
  ·rw [Qav,xN e1]
  ·rw [Qa6,xN e1]
def Qbp:Nat→Tr→Tr
 | 0,u=>u
 | n+1,u=>.mk 8 ⟨#[]⟩ [] [Qbp n u]
def Qcw (k:Int):Tr:=.mk k ⟨#[]⟩ [] []
theorem Qk5 (k:Int) (n:Nat):∀ (l:List Tr) (i j:Nat) (a:Tr),Qbc k n i l=true→l[j]? = some a→Qfl k n (i+j) a.kind=true∧Qar a=true
 | [],_,j,_,_,h=>by simp at h
 | b :: r,i,0,a,h,ha=>by
  rw [Qbc,Bool.and_eq_true,Bool.and_eq_true] at h;simp at ha
  subst ha;exact h.1
 | b :: r,i,j+1,a,h,ha=>by
  rw [Qbc,Bool.and_eq_true] at h;have:=Qk5 k n r (i+1) j a h.2 (by simpa using ha)
  rwa [show i+1+j=i+(j+1) from by omega] at this
theorem Qe2 {t:Tr} (h:Qar t=true):0≤Qat t.kind t.kids.length∧Qau (Qae t.kind) t.text=true∧∀ (j:Nat) (a:Tr),t.kids[j]? = some a→Qfl t.kind t.kids.length j a.kind=true∧Qar a=true:=by
 rw [Qdo,Bool.and_eq_true,Bool.and_eq_true] at h
 refine ⟨?_,h.1.2,fun j a ha=>?_⟩
 ·have h1:=h.1.1;rw [Bool.not_eq_true'] at h1;have h2:=of_decide_eq_false h1;omega
 ·have:=Qk5 _ _ _ 0 j a h.2 ha
  rwa [Nat.zero_add] at this
theorem Qjg {n m k:Int} (_hk:0≤k) (h:0≤Qa2 n m k):n=m:=by
 unfold Qa2 at h
 split at h
 ·assumption
 ·omega
theorem Qit {k:Int} (h:Qed 3 k=true):5≤k∧k≤9:=by
 have e:Qed 3 k=(decide (5≤k) && decide (k≤9)):=rfl;rw [e] at h
 simpa using h
theorem Qw5 {t:Tr} (h:(t.kids.length:Int)=1):∃ k,t.kids = [k]:=by
 cases hk:t.kids with
 | nil=>rw [hk] at h;simp at h
 | cons a r =>
  cases r with
  | nil=>exact ⟨a,rfl⟩
  | cons b r=>rw [hk] at h;simp at h;omega
theorem Qeu {t:Tr} (h:Qar t=true) (hk:5≤t.kind∧t.kind≤9):(t.kind=8∧∃ k,t.kids = [k]∧(5≤k.kind∧k.kind≤9)∧Qar k=true)∨(t.kind≠8∧t.kids = []∧(t.kind≠9→t.text=⟨#[]⟩)):=by
 obtain ⟨h1,h2,h3⟩:=Qe2 h
 rcases (show t.kind=5∨t.kind=6∨t.kind=7∨t.kind=8∨t.kind=9 from by omega) with e | e | e | e | e
 ·rw [e] at h1 h2
  refine .inr ⟨by omega,?_,fun _=>?_⟩
  ·have:=Qjg (by decide) (show 0≤Qa2 t.kids.length 0 1 from h1)
   exact List.eq_nil_of_length_eq_zero (by omega)
  ·have e2:Qau (Qae 5) t.text=is t.text []:=rfl;rw [e2] at h2;have h4:=eq_of_beq (show (t.text.data.toList==([]:List UInt8))=true from h2);cases hx:t.text with
   | mk d=>rw [hx] at h4;cases d;simp at h4;subst h4;rfl
 ·rw [e] at h1 h2
  refine .inr ⟨by omega,?_,fun _=>?_⟩
  ·have:=Qjg (by decide) (show 0≤Qa2 t.kids.length 0 1 from h1)
   exact List.eq_nil_of_length_eq_zero (by omega)
  ·have e2:Qau (Qae 6) t.text=is t.text []:=rfl;rw [e2] at h2;have h4:=eq_of_beq (show (t.text.data.toList==([]:List UInt8))=true from h2);cases hx:t.text with
   | mk d=>rw [hx] at h4;cases d;simp at h4;subst h4;rfl
 ·rw [e] at h1 h2
  refine .inr ⟨by omega,?_,fun _=>?_⟩
  ·have:=Qjg (by decide) (show 0≤Qa2 t.kids.length 0 1 from h1)
   exact List.eq_nil_of_length_eq_zero (by omega)
  ·have e2:Qau (Qae 7) t.text=is t.text []:=rfl;rw [e2] at h2;have h4:=eq_of_beq (show (t.text.data.toList==([]:List UInt8))=true from h2);cases hx:t.text with
   | mk d=>rw [hx] at h4;cases d;simp at h4;subst h4;rfl
 ·rw [e] at h1;obtain ⟨k,hk'⟩:=Qw5 (Qjg (by decide) (show 0≤Qa2 t.kids.length 1 2 from h1));obtain ⟨q1,q2⟩:=h3 0 k (by rw [hk'];rfl);rw [e] at q1;exact .inl ⟨e,k,hk',Qit q1,q2⟩
 ·rw [e] at h1;refine .inr ⟨by omega,?_,fun h=>absurd e h⟩;have:=Qjg (by decide) (show 0≤Qa2 t.kids.length 0 1 from h1)
  exact List.eq_nil_of_length_eq_zero (by omega)
theorem Qk6 {t:Tr} (h:Qar t=true) (h3:t.kind=3):∃ k,t.kids = [k]∧(5≤k.kind∧k.kind≤9)∧Qar k=true:=by
 obtain ⟨h1,_,h4⟩:=Qe2 h;rw [h3] at h1;obtain ⟨k,hk'⟩:=Qw5 (Qjg (by decide) (show 0≤Qa2 t.kids.length 1 3 from h1));obtain ⟨q1,q2⟩:=h4 0 k (by rw [hk'];rfl);rw [h3] at q1;exact ⟨k,hk',Qit q1,q2⟩
theorem Quh {t:Tr} (h:Qar t=true) (h2:t.kind=2):2≤t.kids.length:=by
 obtain ⟨h1,_,_⟩:=Qe2 h;rw [h2] at h1;have e:Qat 2 t.kids.length=if (2:Int)≤t.kids.length then 6+max 0 ((t.kids.length:Int)-3) else -1:=rfl
 rw [e] at h1
 split at h1 <;> omega
theorem Qe3 (N:Nat):∀ t:Tr,SizeOf.sizeOf t≤N→Qar t=true→5≤t.kind∧t.kind≤9→((Qav t).kind=5∨(Qav t).kind=6∨(Qav t).kind=7∨(Qav t).kind=9)∧(Qav t).kids = []∧((Qav t).kind≠9→(Qav t).text=⟨#[]⟩)∧Qar (Qav t)=true:=by
 induction N with
 | zero=>intro t h;have:=Qf7 t;omega
 | succ N ih =>
  intro t hN h hk
  rcases Qeu h hk with ⟨h8,k,hkk,h1,h2⟩|⟨h8,h1,h2⟩
  ·rw [(Qek h8 hkk).1];exact ih k (by have:=Qbn (t:=t) (j:=0) (k:=k) (by rw [hkk];rfl);omega) h2 h1
  ·rw [(Qel h8).1];exact ⟨by omega,h1,h2,h⟩
def Qg9 (ps:List Tr) (m d:Nat):Tr:=(((ps[m]?).getD noTr).kids[d]?).getD noTr
def Qjh (ps:List Tr) (m d:Nat):Tr:=((Qg9 ps m d).kids[0]?).getD noTr
def goL (ps:List Tr):Nat→Int × Int × Bool→List (Int × Int)→Nat→Option (Int × Nat × Int)
 | 0,_,_,_=>none
 | f+1,r,met,n =>
  if r.2.2=true then
   (if (r.1,r.2.1)∈met then some (19,0,0)
    else if (Qav (Qjh ps r.1.toNat r.2.1.toNat)).kind=9 then goL ps f (Qaw ps r.1.toNat (Qav (Qjh ps r.1.toNat r.2.1.toNat)).text) (met ++ [(r.1,r.2.1)]) (n+Qa6 (Qjh ps r.1.toNat r.2.1.toNat))
    else some (0,n+Qa6 (Qjh ps r.1.toNat r.2.1.toNat),(Qav (Qjh ps r.1.toNat r.2.1.toNat)).kind))
  else some (7,0,0)
def Zao:List Tr→Nat→List (Int × Int)
 | [],_=>[]
 | t :: r,i=>((List.range t.kids.length).map fun d=>((i:Int),((d:Nat):Int))) ++ Zao r (i+1)
theorem Qsc:(l:List Tr)→(i m d:Nat)→(t:Tr)→l[m]? = some t→d<t.kids.length→(((i+m:Nat):Int),(d:Int))∈Zao l i
 | [],_,m,_,_,h,_=>by simp at h
 | a :: r,i,0,d,t,h,hd=>by
  simp at h
  subst h;rw [Zao];exact List.mem_append_left _ (List.mem_map.2 ⟨d,List.mem_range.2 hd,rfl⟩)
 | a :: r,i,m+1,d,t,h,hd=>by
  rw [Zao];have:=Qsc r (i+1) m d t (by simpa using h) hd
  rw [show i+1+m=i+(m+1) from by omega] at this;exact List.mem_append_right _ this
theorem Qsd:(l:List Tr)→(i:Nat)→(Zao l i).length≤Qak l
 | [],_=>by rw [Zao,Qak];exact xA _
 | t :: r,i=>by
  rw [Zao,xB,List.length_map,List.length_range,Qak,Qa9 t];have h1:=Qsd r (i+1);have h2:=Qa4 t.kids;omega
theorem Qo9 {α:Type} [DecidableEq α]:(l a:List α)→l.Nodup→(∀ x∈l,x∈a)→l.length≤a.length
 | [],_,_,_=>xZ _
 | x :: l,a,hn,hs=>by
  obtain ⟨h1,h2⟩:=List.nodup_cons.1 hn;have hx:x∈a:=hs x (by simp);have ih:=Qo9 l (a.erase x) h2 fun y hy=>(List.mem_erase_of_ne (fun e=>by subst e;exact h1 hy)).2 (hs y (by simp [hy]))
  rw [List.length_erase_of_mem hx] at ih;have:=List.length_pos_of_mem hx
  rw [xD];omega
theorem Qme {α:Type} {l:List α} {x:α} (h:l.Nodup) (hx:x ∉ l):(l ++ [x]).Nodup:=by
 rw [List.nodup_append];refine ⟨h,by simp,fun a ha b hb e=>?_⟩;simp at hb
 subst hb e;exact hx ha
def InD (ps:List Tr) (a:Int × Int):Prop:=∃ (m d:Nat) (t k:Tr),a=((m:Int),(d:Int))∧ps[m]? = some t∧t.kids[d]? = some k
theorem InD.mem {ps:List Tr} {a:Int × Int} (h:InD ps a):a∈Zao ps 0:=by
 obtain ⟨m,d,t,k,rfl,h1,h2⟩:=h;have:=Qsc ps 0 m d t h1 (xP.1 h2).1
 rwa [Nat.zero_add] at this
theorem Qw6 {ps:List Tr} {met:List (Int × Int)} (hn:met.Nodup) (hm:∀ a∈met,InD ps a):met.length≤Qak ps:=xQ (Qo9 met (Zao ps 0) hn fun a ha=>(hm a ha).mem) (Qsd ps 0)
theorem Qmf:(l:List Tr)→(x:ByteArray)→Qnf l x<l.length→∃ t,l[Qnf l x]? = some t∧t.text=x
 | [],x,h=>by simp at h
 | a :: r,x,h=>by
  by_cases hx:a.text=x
  ·rw [Qnf,xO hx];exact ⟨a,rfl,hx⟩
  ·rw [Qnf,xN hx] at h ⊢;obtain ⟨t,h1,h2⟩:=Qmf r x (by simpa using h);exact ⟨t,by simpa using h1,h2⟩
theorem Qjy {ps:List Tr} {i:Nat} {x:ByteArray} (h:(Qea ps i x).2.2=true):∃ (t k:Tr) (d:Nat),ps[i]? = some t∧t.kids[d]? = some k∧k.text=x∧Qea ps i x=((i:Int),(d:Int),true):=by
 unfold Qea at h ⊢
 split at h
 ·rename_i hk
  cases ht:ps[i]? with
  | none=>rw [ht] at hk;exact absurd hk (by simp [noTr,Tr.kids])
  | some t =>
   rw [ht,Option.getD_some] at hk;obtain ⟨k,h1,h2⟩:=Qmf t.kids x hk;refine ⟨t,k,_,rfl,h1,h2,?_⟩;rw [Option.getD_some,xO hk]
 ·cases h
theorem Qse {ps:List Tr} {i:Nat} {s:ByteArray} (h:(Qaw ps i s).2.2=true):∃ (m d:Nat) (t k:Tr),ps[m]? = some t∧t.kids[d]? = some k∧k.text=(Qfp s).2.1∧Qaw ps i s=((m:Int),(d:Int),true):=by
 unfold Qaw at h ⊢;cases hd:(Qfp s).2.2 with
 | true =>
  rw [hd,xO rfl] at h;rw [xO rfl]
  split at h
  ·rename_i hk
   obtain ⟨t,k,d,h1,h2,h3,h4⟩:=Qjy h;rw [xO hk];exact ⟨_,d,t,k,h1,h2,h3,h4⟩
  ·cases h
 | false =>
  rw [hd,xN (by decide)] at h;rw [xN (by decide)];obtain ⟨t,k,d,h1,h2,h3,h4⟩:=Qjy h;exact ⟨i,d,t,k,h1,h2,h3,h4⟩
theorem Qra {ps:List Tr} {i:Nat} {s:ByteArray} (h:(Qaw ps i s).2.2=true):InD ps ((Qaw ps i s).1,(Qaw ps i s).2.1):=by
 obtain ⟨m,d,t,k,h1,h2,_,h4⟩:=Qse h;rw [h4];exact ⟨m,d,t,k,rfl,h1,h2⟩
theorem Qw7 {ps:List Tr} {i:Nat} {s:ByteArray} (h:(Qaw ps i s).2.2=false):Qaw ps i s=(0,0,false):=by
 unfold Qaw Qea at h ⊢
 split
 ·rename_i h1
  rw [xO h1] at h
  split
  ·rename_i h2
   rw [xO h2] at h
   split
   ·rename_i h3;rw [xO h3] at h;cases h
   ·rfl
  ·rfl
 ·rename_i h1
  rw [xN h1] at h
  split
  ·rename_i h3;rw [xO h3] at h;cases h
  ·rfl
theorem Qpa (ps:List Tr):(f:Nat)→(r:Int × Int × Bool)→(met:List (Int × Int))→(n:Nat)→met.Nodup→(∀ a∈met,InD ps a)→(r.2.2=true→InD ps (r.1,r.2.1))→Qak ps+1≤f+met.length→∃ R,goL ps f r met n=some R
 | 0,r,met,n,hn,hm,_,hf=>by
  have:=Qw6 hn hm
  omega
 | f+1,r,met,n,hn,hm,hr,hf=>by
  rw [goL]
  split
  ·rename_i h
   split
   ·exact ⟨_,rfl⟩
   ·rename_i hx
    split
    ·refine Qpa ps f _ _ _ (Qme hn hx) (fun a ha=>?_) (fun h'=>Qra h') (by rw [xB,List.length_singleton];omega)
     rcases List.mem_append.1 ha with ha | ha
     ·exact hm a ha
     ·simp at ha
      subst ha;exact hr h
    ·exact ⟨_,rfl⟩
  ·exact ⟨_,rfl⟩
def Qpb (ps:List Tr) (m:Nat) (t:Tr):Int × Nat × Int :=
 if (Qav t).kind=9 then (goL ps (Qak ps+1) (Qaw ps m (Qav t).text) [] (Qa6 t)).getD (0,0,0) else (0,Qa6 t,(Qav t).kind)
theorem Qnl {ps:List Tr} {m:Nat} {t:Tr} (h:(Qav t).kind=9):goL ps (Qak ps+1) (Qaw ps m (Qav t).text) [] (Qa6 t)=some (Qpb ps m t):=by
 obtain ⟨R,hR⟩:=Qpa ps (Qak ps+1) (Qaw ps m (Qav t).text) [] (Qa6 t) List.nodup_nil (by simp) (fun h=>Qra h) (by simp);unfold Qpb;rw [xO h,hR];rfl
def Qbv (ps:List Tr) (m:Int) (t:Tr):Int × Nat × Int :=
 if Qb4 ps=false∨m<0∨(ps.length:Int)≤m∨¬ (5≤t.kind∧t.kind≤9)∨Qaj t=false then (5,0,0) else Qpb ps m.toNat t
end Go.Proofs.YtfjpemdejoejbaaGreat
