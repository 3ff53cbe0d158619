/- Part 39 -/
import Derived.Test.YtfjpemdejoejbaaGreatTt38
import Derived.Test.YtfjpemdejoejbaaGreatTt36
import Derived.Test.YtfjpemdejoejbaaGreatTt37
set_option maxRecDepth 100000
set_option maxHeartbeats 4000000
namespace Go.Proofs.YtfjpemdejoejbaaGreat
open Go.RowKit
def Qgu (ps:List Tr):List Tr→Nat→List Tgm
 | [],_=>[]
 | t :: r,i=>Qsp ps i t [] ++ Qgu ps r (i+1)
theorem Qmi (ps:List Tr) (t:Tr):(l:List Tr)→(i:Nat)→Qgu ps (l ++ [t]) i=Qgu ps l i ++ Qsp ps (i+l.length) t []
 | [],i=>by simp [Qgu]
 | a :: r,i=>by
  have h:=Qmi ps t r (i+1);rw [xV,Qgu,h,Qgu,xT,show i+1+r.length=i+(a :: r).length from by simp;omega]
theorem Qum {ps l:List Tr} {k:Nat} {t:Tr} (h:l[k]? = some t):Qgu ps (l.take (k+1)) 0=Qgu ps (l.take k) 0 ++ Qsp ps k t []:=by
 have hk:k<l.length:=(xP.1 h).1;rw [List.take_add_one,h,Option.toList_some,Qmi,List.length_take,Nat.min_eq_left (Nat.le_of_lt hk),Nat.zero_add]
theorem Zaz (ps:List Tr) (m:Nat) (t:Tr) (p:List Int):(Qsp ps m t p).length≤Qal t:=by unfold Qsp;rw [List.length_map];exact Qsm ps m t p
theorem Qle (ps:List Tr):(l:List Tr)→(i:Nat)→(Qgu ps l i).length≤Qak l
 | [],_=>by rw [Qgu,Qak];simp
 | t :: r,i=>by
  rw [Qgu,xB,Qak];have h1:=Zaz ps i t [];have h2:=Qle ps r (i+1);omega
def Qho (ps:List Tr):List Tgm:=if Qb4 ps=true then Qgu ps ps 0 else []
theorem Qxl (ps:List Tr):(Qho ps).length≤Qak ps:=by
 unfold Qho
 split
 ·exact Qle ps ps 0
 ·simp
end Go.Proofs.YtfjpemdejoejbaaGreat
namespace Go.Proofs.YtfjpemdejoejbaaGreat
open Go.RowKit Go.Shelf
theorem Qnq (f:Tr→Tr) (hf:∀ t,(f t).text=t.text):(l:List Tr)→(x:ByteArray)→Qnf (l.map f) x=Qnf l x
 | [],_=>rfl
 | t :: r,x=>by rw [List.map_cons,Qnf,Qnf,hf,Qnq f hf r x]
theorem Qxm (t:Tr):(Qgq t).text=t.text:=rfl
theorem Qxn (t:Tr):(Qn7 t).text=t.text:=rfl
theorem Qha (t:Tr):(Qn7 t).kids=t.kids.map Qgq:=rfl
theorem Qmj (ps:List Tr) (i:Nat) (x:ByteArray):Qea (Qgr ps) i x=Qea ps i x:=by
 unfold Qea;rw [Qnm];cases ps[i]? with
 | none=>rfl
 | some t=>rw [Option.map_some,Option.getD_some,Option.getD_some,Qha,Qnq Qgq Qxm,List.length_map]
theorem Qpi (ps:List Tr) (m:Nat) (s:ByteArray):Qaw (Qgr ps) m s=Qaw ps m s:=by
 unfold Qaw;rw [Qmj,Qmj];unfold Qgr;rw [Qnq Qn7 Qxn,List.length_map]
def Qnr (k:Tr):Prop:=(k.kind=2∨k.kind=3)∧Qar k=true∧Qal k≤1000
theorem Qss {ps:List Tr} (hz:∀ t∈ps,Qal t≤1000) (hg:Qb4 ps=true) {m d:Nat} {t k:Tr} (ht:ps[m]? = some t) (hk:t.kids[d]? = some k):Qnr k:=by
 obtain ⟨q1,q2⟩:=Qfc hg ht;have hzt:=hz t (yA ht);rw [←Qbl _ t (xA _) hzt] at q2;obtain ⟨r1,r2⟩:=(Qe2 q2).2.2 d k hk;refine ⟨?_,r2,by have:=Qdn hk;omega⟩;rw [q1] at r1;have e:Qfl 1 t.kids.length d k.kind=(k.kind==2 || k.kind==3):=rfl;rw [e] at r1
 simpa using r1
def Qc0 (k:Tr):Tr:=Qav ((k.kids[0]?).getD noTr)
theorem Qns {k:Tr} (h:Qnr k) (h3:k.kind=3):∃ a,k.kids = [a]∧Qc0 k=Qav a∧((Qav a).kind=5∨(Qav a).kind=6∨(Qav a).kind=7∨(Qav a).kind=9)∧(Qav a).kids = []∧((Qav a).kind≠9→(Qav a).text=⟨#[]⟩)∧Qar (Qav a)=true∧Qar a=true∧(5≤a.kind∧a.kind≤9):=by
 obtain ⟨a,h1,h2,h4⟩:=Qk6 h.2.1 h3;obtain ⟨c1,c2,c3,c4⟩:=Qe3 _ a (xA _) h4 h2;exact ⟨a,h1,by unfold Qc0;rw [h1];rfl,c1,c2,c3,c4,h4,h2⟩
def Zdp (ps:List Tr) (m:Nat) (k:Tr) (p:List Int):List Tgt:=if k.kind=3∧(Qc0 k).kind=9 then [(p ++ [0],(Qaw ps m (Qc0 k).text).1,(Qaw ps m (Qc0 k).text).2.1,!(Qaw ps m (Qc0 k).text).2.2)] else []
theorem Qlf (q:List Tr) (m:Nat) (t:Tr) (p:List Int) (h:t.kids = []):Qy7 q m t p=Qxd q m t p:=by rw [Qld,h,Qlc,List.append_nil]
theorem Qlg {q:List Tr} {m:Nat} {t:Tr} {p:List Int} (h:¬ (t.kind=16∨t.kind=9)):Qxd q m t p = []:=by unfold Qxd;rw [xN h]
theorem Qxo (ps:List Tr) (m:Nat) (k:Tr) (p:List Int) (h:Qnr k):Qy7 (Qgr ps) m (Qgq k) p=Zdp ps m k p:=by
 have e0:(Qgq k).kind=k.kind:=rfl;rw [Qld,Qlg (by rw [e0];have:=h.1;omega),xU];unfold Zdp
 by_cases h3:k.kind=3
 ·obtain ⟨a,h1,h2,c1,c2,_⟩:=Qns h h3;have e1:(Qgq k).kids = [Qc0 k]:=by unfold Qgq Qc0;rw [xO h3];rfl
  rw [e1,Qlc,Qlc,List.append_nil,Qlf _ _ _ _ (by rw [h2];exact c2)];unfold Qxd
  by_cases h9:(Qc0 k).kind=9
  ·rw [xO (.inr h9),xO ⟨h3,h9⟩,Qpi];rfl
  ·rw [xN (by rw [h2] at h9 ⊢;omega),xN (fun h=>h9 h.2)]
 ·have e1:(Qgq k).kids = [Qcw 5,Qcw 15]:=by unfold Qgq;rw [xN h3];rfl
  rw [e1,Qlc,Qlc,Qlc,Qlf _ _ _ _ rfl,Qlf _ _ _ _ rfl,Qlg (by decide),Qlg (by decide),xN (fun h=>h3 h.1)];rfl
theorem Qhb (ps:List Tr) (m:Nat) (z:Tgt):(l:List Tr)→(n:Nat)→(∀ k∈l,Qnr k)→(z∈Qlc (Qgr ps) m (l.map Qgq) n [] ↔ ∃ (d:Nat) (k:Tr),l[d]? = some k∧z∈Zdp ps m k [((n+d:Nat):Int)])
 | [],n,_=>by rw [List.map_nil,Qlc];simp
 | a :: r,n,h=>by
  rw [List.map_cons,Qlc,List.mem_append,xU,Qxo ps m a _ (h a (by simp)),Qhb ps m z r (n+1) fun k hk=>h k (by simp [hk])]
  constructor
  ·rintro (h1|⟨d,k,h1,h2⟩)
   ·exact ⟨0,a,rfl,h1⟩
   ·exact ⟨d+1,k,by simpa using h1,by rw [show n+(d+1)=n+1+d from by omega];exact h2⟩
  ·rintro ⟨d,k,h1,h2⟩
   match d,h1,h2 with
   | 0,h1,h2 =>
    injection h1 with h1;subst h1;exact .inl h2
   | d+1,h1,h2=>exact .inr ⟨d,k,by simpa using h1,by rw [show n+1+d=n+(d+1) from by omega];exact h2⟩
theorem Qiy (q:List Tr) (z:Tgm):(l:List Tr)→(i:Nat)→(z∈Qgu q l i ↔ ∃ (m:Nat) (t:Tr),l[m]? = some t∧z∈Qsp q (i+m) t [])
 | [],i=>by rw [Qgu];simp
 | a :: r,i=>by
  rw [Qgu,List.mem_append,Qiy q z r (i+1)]
  constructor
  ·rintro (h1|⟨m,t,h1,h2⟩)
   ·exact ⟨0,a,rfl,h1⟩
   ·exact ⟨m+1,t,by simpa using h1,by rw [show i+(m+1)=i+1+m from by omega];exact h2⟩
  ·rintro ⟨m,t,h1,h2⟩
   match m,h1,h2 with
   | 0,h1,h2 =>
    injection h1 with h1;subst h1;exact .inl h2
   | m+1,h1,h2=>exact .inr ⟨m,t,by simpa using h1,by rw [show i+1+m=i+(m+1) from by omega];exact h2⟩
theorem Qst {ps:List Tr} (hz:∀ t∈ps,Qal t≤1000) (hg:Qb4 ps=true) (hq:Qb4 (Qgr ps)=true) (z:Tgm):z∈Qho (Qgr ps) ↔ ∃ (m d:Nat) (t k:Tr),ps[m]? = some t∧t.kids[d]? = some k∧z.1=(m:Int)∧z.2∈Zdp ps m k [(d:Int)]:=by
 unfold Qho;rw [xO hq,Qiy]
 constructor
 ·rintro ⟨m,t',h1,h2⟩;rw [Qnm] at h1;obtain ⟨t,ht,rfl⟩:=Option.map_eq_some_iff.1 h1;rw [Nat.zero_add] at h2;unfold Qsp at h2;obtain ⟨x,hx,rfl⟩:=List.mem_map.1 h2;have e0:(Qn7 t).kind=t.kind:=rfl;rw [Qld,Qlg (by rw [e0,(Qfc hg ht).1];decide),xU,Qha,Qhb ps m x t.kids 0 (fun k hk=>by obtain ⟨d,hd,he⟩:=List.getElem_of_mem hk;exact Qss hz hg ht (d:=d) (by rw [xF hd,he]))] at hx;obtain ⟨d,k,q1,q2⟩:=hx;rw [Nat.zero_add] at q2;exact ⟨m,d,t,k,ht,q1,rfl,q2⟩
 ·rintro ⟨m,d,t,k,ht,hk,h1,h2⟩;refine ⟨m,Qn7 t,by rw [Qnm,ht];rfl,?_⟩;rw [Nat.zero_add];unfold Qsp;refine List.mem_map.2 ⟨z.2,?_,by rw [←h1]⟩;have e0:(Qn7 t).kind=t.kind:=rfl;rw [Qld,Qlg (by rw [e0,(Qfc hg ht).1];decide),xU,Qha,Qhb ps m z.2 t.kids 0 (fun k hk=>by obtain ⟨d,hd,he⟩:=List.getElem_of_mem hk;exact Qss hz hg ht (d:=d) (by rw [xF hd,he]))];exact ⟨d,k,hk,by rw [Nat.zero_add];exact h2⟩
def Qy8 (z:Tgm):Pr:=(z.1,z.2.1.headD 0)
def Qhk (f:Pr→Option Pr) (zs:List Tgm):Pr→Option Pr:=zs.foldl (fun f z=>if z.2.2.2.2=true then f else Qsk f (Qy8 z) (z.2.2.1,z.2.2.2.1)) f
def Qjl (zs:List Tgm):Pr→Option Pr:=Qhk (fun _=>none) zs
theorem Qmk {zs:List Tgm} {j:Nat} {z:Tgm} (h:zs[j]? = some z):Qjl (zs.take (j+1))=if z.2.2.2.2=true then Qjl (zs.take j) else Qsk (Qjl (zs.take j)) (Qy8 z) (z.2.2.1,z.2.2.2.1):=by
 unfold Qjl Qhk;rw [List.take_add_one,h,Option.toList_some,List.foldl_append];rfl
theorem Qpj (a:Pr):(zs:List Tgm)→(f:Pr→Option Pr)→f a=none→(∀ z∈zs,z.2.2.2.2=false→Qy8 z≠a)→Qhk f zs a=none
 | [],f,hf,_=>hf
 | z :: r,f,hf,h=>by
  show Qhk (if z.2.2.2.2=true then f else Qsk f (Qy8 z) (z.2.2.1,z.2.2.2.1)) r a=none
  refine Qpj a r _ ?_ fun y hy=>h y (by simp [hy])
  split
  ·exact hf
  ·rename_i hz
   unfold Qsk;rw [xN (fun e=>h z (by simp) (by simpa using hz) e.symm)];exact hf
theorem Qpk (a v:Pr):(zs:List Tgm)→(f:Pr→Option Pr)→(∀ z∈zs,z.2.2.2.2=false→Qy8 z=a→(z.2.2.1,z.2.2.2.1)=v)→(f a=some v∨∃ z∈zs,z.2.2.2.2=false∧Qy8 z=a)→Qhk f zs a=some v
 | [],f,_,h=>by
  rcases h with h|⟨z,hz,_⟩
  ·exact h
  ·simp at hz
 | z :: r,f,hu,h=>by
  show Qhk (if z.2.2.2.2=true then f else Qsk f (Qy8 z) (z.2.2.1,z.2.2.2.1)) r a=some v
  refine Qpk a v r _ (fun y hy=>hu y (by simp [hy])) ?_
  by_cases hz:z.2.2.2.2=true
  ·rw [xO hz]
   rcases h with h|⟨y,hy,h1,h2⟩
   ·exact .inl h
   ·rcases List.mem_cons.1 hy with rfl | hy
    ·rw [hz] at h1;cases h1
    ·exact .inr ⟨y,hy,h1,h2⟩
  ·rw [xN hz];have hz':z.2.2.2.2=false:=by simpa using hz
   by_cases hk:Qy8 z=a
   ·refine .inl ?_;unfold Qsk;rw [xO hk.symm,hu z (by simp) hz' hk]
   ·rcases h with h|⟨y,hy,h1,h2⟩
    ·refine .inl ?_;unfold Qsk;rw [xN (fun e=>hk e.symm)];exact h
    ·rcases List.mem_cons.1 hy with rfl | hy
     ·exact absurd h2 hk
     ·exact .inr ⟨y,hy,h1,h2⟩
def Qdc (ps:List Tr) (a:Pr):Option Pr :=
 if 0≤a.1∧0≤a.2∧(Qg9 ps a.1.toNat a.2.toNat).kind=3∧(Qc0 (Qg9 ps a.1.toNat a.2.toNat)).kind=9∧(Qaw ps a.1.toNat (Qc0 (Qg9 ps a.1.toNat a.2.toNat)).text).2.2=true
 then some ((Qaw ps a.1.toNat (Qc0 (Qg9 ps a.1.toNat a.2.toNat)).text).1,(Qaw ps a.1.toNat (Qc0 (Qg9 ps a.1.toNat a.2.toNat)).text).2.1) else none
theorem Qiz {ps:List Tr} {m d:Nat} {t k:Tr} (ht:ps[m]? = some t) (hk:t.kids[d]? = some k):Qg9 ps m d=k:=by unfold Qg9;rw [ht,Option.getD_some,hk,Option.getD_some]
theorem Qxp {ps:List Tr} {m d:Nat} (h:(Qg9 ps m d).kind=3):∃ t k,ps[m]? = some t∧t.kids[d]? = some k∧Qg9 ps m d=k:=by
 unfold Qg9 at h ⊢;cases ht:ps[m]? with
 | none=>rw [ht] at h;exact absurd h (by simp [noTr,Tr.kids,Tr.kind])
 | some t =>
  rw [ht,Option.getD_some] at h;rw [Option.getD_some];cases hk:t.kids[d]? with
  | none=>rw [hk] at h;exact absurd h (by simp [noTr,Tr.kind])
  | some k=>exact ⟨t,k,rfl,hk,rfl⟩
theorem Qsu {ps:List Tr} (hz:∀ t∈ps,Qal t≤1000) (hg:Qb4 ps=true) (hq:Qb4 (Qgr ps)=true):Qjl (Qho (Qgr ps))=Qdc ps:=by
 funext a
 have hm:=Qst hz hg hq
 have hz2:∀ z∈Qho (Qgr ps),∃ (m d:Nat) (t k:Tr),ps[m]? = some t∧t.kids[d]? = some k∧k.kind=3∧(Qc0 k).kind=9∧Qy8 z=((m:Int),(d:Int))∧z.2.2=((Qaw ps m (Qc0 k).text).1,(Qaw ps m (Qc0 k).text).2.1,!(Qaw ps m (Qc0 k).text).2.2):=fun z h=>by
  obtain ⟨m,d,t,k,ht,hk,h1,h2⟩:=(hm z).1 h;unfold Zdp at h2
  split at h2
  ·rename_i hh
   rw [List.mem_singleton] at h2;refine ⟨m,d,t,k,ht,hk,hh.1,hh.2,?_,by rw [h2]⟩;unfold Qy8;rw [h1,h2];rfl
  ·simp at h2
 unfold Qdc
 split
 ·rename_i hc
  obtain ⟨c1,c2,c3,c4,c5⟩:=hc;obtain ⟨t,k,ht,hk,hd⟩:=Qxp c3;rw [hd] at c3 c4 c5 ⊢
  have ea:a=(((a.1.toNat:Nat):Int),((a.2.toNat:Nat):Int)):=by
   obtain ⟨x,y⟩:=a;simp only at c1 c2 ⊢;rw [Int.toNat_of_nonneg c1,Int.toNat_of_nonneg c2]
  refine Qpk a _ _ _ (fun z hzz hf hke=>?_) (.inr ?_)
  ·obtain ⟨m',d',t',k',ht',hk',_,_,q1,q2⟩:=hz2 z hzz;rw [q1] at hke;rw [ea] at hke;injection hke with e1 e2;have e1:m'=a.1.toNat:=by omega
   have e2:d'=a.2.toNat:=by omega
   subst e1 e2;rw [ht] at ht';injection ht' with ht';subst ht';rw [hk] at hk';injection hk' with hk';subst hk';rw [q2]
  ·refine ⟨(((a.1.toNat:Nat):Int),[((a.2.toNat:Nat):Int)] ++ [0],(Qaw ps a.1.toNat (Qc0 k).text).1,(Qaw ps a.1.toNat (Qc0 k).text).2.1,!(Qaw ps a.1.toNat (Qc0 k).text).2.2),(hm _).2 ⟨a.1.toNat,a.2.toNat,t,k,ht,hk,rfl,?_⟩,?_,?_⟩
   ·unfold Zdp;rw [xO ⟨c3,c4⟩];exact List.mem_singleton.2 rfl
   ·show (!(Qaw ps a.1.toNat (Qc0 k).text).2.2)=false
    rw [c5];rfl
   ·rw [ea];rfl
 ·rename_i hc
  refine Qpj a _ _ rfl fun z hzz hf hke=>hc ?_
  obtain ⟨m,d,t,k,ht,hk,q3,q9,q1,q2⟩:=hz2 z hzz;rw [q1] at hke;subst hke;simp only [Int.toNat_natCast];rw [Qiz ht hk];refine ⟨by omega,by omega,q3,q9,?_⟩;rw [q2] at hf
  simpa using hf
theorem Qxq {ps:List Tr} {m d:Nat} (h3:(Qg9 ps m d).kind=3) (h9:(Qc0 (Qg9 ps m d)).kind=9):((Qji (Qdc ps) ((m:Int),(d:Int))).1,(Qji (Qdc ps) ((m:Int),(d:Int))).2,(Qdc ps ((m:Int),(d:Int))).isSome)=Qaw ps m (Qc0 (Qg9 ps m d)).text:=by
 unfold Qji Qdc;simp only [Int.toNat_natCast];cases hf:(Qaw ps m (Qc0 (Qg9 ps m d)).text).2.2 with
 | true =>
  rw [xO ⟨by omega,by omega,h3,h9,rfl⟩,Option.getD_some,Option.isSome_some];rw [←hf]
 | false =>
  rw [xN (fun h=>by cases h.2.2.2.2),Option.getD_none,Option.isSome_none,Qw7 hf]
end Go.Proofs.YtfjpemdejoejbaaGreat
namespace Go.Proofs.YtfjpemdejoejbaaGreat
open Go.RowKit
theorem Qsv:(i:Nat)→(l:List UInt8)→(Qcf i l).kind=6∨(Qcf i l).kind=0
 | _,[]=>.inr rfl
 | i,c :: r=>by
  rw [Qcf]
  split
  ·exact .inl rfl
  ·split
   ·exact .inr rfl
   ·split
    ·exact Qsv (i+1) r
    ·exact .inr rfl
theorem Qmm {l:List UInt8} (h1:1≤Qag l) (h4:Qag l≤4):(Qcv l).kind=Qag l∧(Qcv l).n=l.length:=by
 by_cases h0:l = []
 ·unfold Qag at h1;rw [xO h0] at h1;omega
 ·by_cases hb:(Qb5 l).e≠0∨(Qb5 l).n≠l.length
  ·unfold Qag at h1;rw [xN h0,xO hb] at h1;omega
  ·have hk:Qag l=(Qb5 l).kind:=by unfold Qag;rw [xN h0,xN hb]
   have hn:(Qb5 l).n=l.length:=by omega
   rw [hk] at h1 h4 ⊢
   have hw:Qb5 l=Qcv l:=by
    unfold Qb5 at h1 h4 ⊢
    by_cases a1:Qaq (at' l 0)=false
    ·rw [xO a1] at h1;exact absurd h1 (by decide)
    ·rw [xN a1] at h1 h4 ⊢
     by_cases a2:Qai (at' l 0)=true
     ·rw [xO a2]
     ·exfalso
      rw [xN a2] at h1 h4
      by_cases a3:Qbm (at' l 0)=true
      ·rw [xO a3] at h1 h4;unfold Qhp at h1 h4
       split at h1
       ·exact absurd h1 (by decide)
       ·rename_i b1
        rw [xN b1] at h4
        split at h1
        ·exact absurd h1 (by decide)
        ·rename_i b2
         rw [xN b2] at h4;exact absurd h4 (by show ¬ 5≤4;decide)
      ·rw [xN a3] at h1 h4
       by_cases a4:at' l 0=34
       ·rw [xO a4] at h1 h4;have:=Qsv 1 (l.drop 1)
        omega
       ·rw [xN a4] at h1 h4;unfold Qde at h1 h4
        split at h1
        ·exact absurd h1 (by decide)
        ·rename_i b1
         rw [xN b1] at h4;exact absurd h4 (by show ¬ 8≤4;decide)
   rw [←hw];exact ⟨rfl,hn⟩
theorem Zdq {c:UInt8} (h:c.toNat=46):c=46:=UInt8.toNat_inj.1 h
theorem Qxv {c:UInt8} (h:Qf0 c.toNat=true):c≠46:=fun e=>by
 subst e;exact absurd h (by decide)
theorem Qxw:(l:List UInt8)→at' l (Qac l)=46→Qn6 l=Qac l
 | [],h=>by exact absurd h (by decide)
 | c :: r,h=>by
  unfold Qac Qc5 at h ⊢
  by_cases hw:Qf0 c.toNat=true
  ·rw [xO hw] at h ⊢;rw [Qn6,xN (Qxv hw),Qxw r h];rfl
  ·rw [xN hw] at h ⊢;rw [Qn6,xO (Zdq (show c.toNat=46 from h))]
theorem Qsw:(l:List UInt8)→Qac l=l.length→Qn6 l=l.length
 | [],_=>rfl
 | c :: r,h=>by
  unfold Qac Qc5 at h
  by_cases hw:Qf0 c.toNat=true
  ·rw [xO hw] at h;rw [Qn6,xN (Qxv hw),Qsw r (by unfold Qac;simpa using h),xD]
  ·rw [xN hw] at h;simp at h
theorem Qxx {l:List UInt8} (h1:1≤Qag l) (h4:Qag l≤4) (hd:Qn6 l<l.length):(Qag l=4∧Qbf (at' l (Qn6 l+1))=true)∨(Qag l=3∧Qbf (at' l (Qn6 l+1))=false):=by
 obtain ⟨hk,hn⟩:=Qmm h1 h4;rw [←hk] at h1 h4 ⊢;unfold Qcv at h1 h4 hn ⊢
 by_cases a1:Qcl l=true
 ·rw [xO a1] at h1 h4 hn ⊢;have hg:Qn6 l=Qac l:=Qxw l (by unfold Qcl at a1;simp at a1;exact a1.1.2);rw [hg];unfold Qcn at h1 h4 hn ⊢
  split at h1
  ·exact absurd h1 (by decide)
  ·rename_i b1
   rw [xN b1]
   split at h1
   ·exact absurd h1 (by decide)
   ·rename_i b2
    rw [xN b2]
    by_cases b3:Qbf (at' l (Qac l+1))=true
    ·rw [xO b3];exact .inl ⟨rfl,b3⟩
    ·rw [xN b3];exact .inr ⟨rfl,by simpa using b3⟩
 ·exfalso
  rw [xN a1] at h1 h4 hn;unfold Qc2 at h1 h4 hn
  split at h1
  ·exact absurd h1 (by decide)
  ·rename_i b1
   rw [xN b1] at hn
   have hw:Qac l=l.length:=by
    split at hn
    ·exact hn
    ·split at hn
     ·exact hn
     ·exact hn
   rw [Qsw l hw] at hd;omega
theorem Qrf {l:List UInt8} (h:Qag l=1∨Qag l=2):Qbf (at' l 0)=decide (Qag l=2):=by
 obtain ⟨hk,_⟩:=Qmm (l:=l) (by omega) (by omega);rw [←hk] at h ⊢;unfold Qcv at h ⊢
 by_cases a1:Qcl l=true
 ·exfalso
  rw [xO a1] at h;unfold Qcn at h
  split at h
  ·exact absurd h (by decide)
  ·split at h
   ·exact absurd h (by decide)
   ·split at h
    ·exact absurd h (by show ¬ (4=1∨4=2);decide)
    ·exact absurd h (by show ¬ (3=1∨3=2);decide)
 ·rw [xN a1] at h ⊢;unfold Qc2 at h ⊢
  split at h
  ·exact absurd h (by decide)
  ·rename_i b1
   rw [xN b1]
   split at h
   ·exact absurd h (by show ¬ (7=1∨7=2);decide)
   ·rename_i b2
    rw [xN b2]
    by_cases b3:Qbf (at' l 0)=true
    ·rw [xO b3,b3];rfl
    ·rw [xN b3,show Qbf (at' l 0)=false from by simpa using b3];rfl
theorem Qxy {x:ByteArray} (h:Qau (Qae 16) x=true):Qag (bl x)=1∨Qag (bl x)=3:=by
 have e:Qau (Qae 16) x=Qba 4 (Qag (bl x)) x:=rfl;rw [e] at h;have e2:Qba 4 (Qag (bl x)) x=((Qag (bl x):Int)==1 || (Qag (bl x):Int)==3):=rfl;rw [e2] at h;simp at h
 omega
theorem Qun {x:ByteArray} (h:Qau (Qae 9) x=true):Qag (bl x)=2∨Qag (bl x)=4:=by
 have e:Qau (Qae 9) x=Qba 3 (Qag (bl x)) x:=rfl;rw [e] at h;have e2:Qba 3 (Qag (bl x)) x=((Qag (bl x):Int)==2 || (Qag (bl x):Int)==4):=rfl;rw [e2] at h;simp at h
 omega
theorem Qxz {x:ByteArray} (h:Qau (Qae 2) x=true):Qag (bl x)=1:=by
 have e:Qau (Qae 2) x=Qba 2 (Qag (bl x)) x:=rfl;rw [e] at h;have e2:Qba 2 (Qag (bl x)) x=((Qag (bl x):Int)==1):=rfl;rw [e2] at h;simp at h
 omega
theorem Quo {x:ByteArray} (h:Qau (Qae 3) x=true):Qag (bl x)=2:=by
 have e:Qau (Qae 3) x=Qba 1 (Qag (bl x)) x:=rfl;rw [e] at h;have e2:Qba 1 (Qag (bl x)) x=((Qag (bl x):Int)==2):=rfl;rw [e2] at h;simp at h
 omega
theorem Qrg (l:List UInt8) (a:Nat):at' (l.drop a) 0=at' l a:=by
 unfold at';rw [List.getD_eq_getElem?_getD,List.getD_eq_getElem?_getD,List.getElem?_drop,Nat.add_zero]
theorem Zdr (s:ByteArray) (a:Nat):bl (s.extract a s.size)=(bl s).drop a:=by
 unfold bl;rw [Qf1,Qd2,Nat.zero_add]
end Go.Proofs.YtfjpemdejoejbaaGreat
