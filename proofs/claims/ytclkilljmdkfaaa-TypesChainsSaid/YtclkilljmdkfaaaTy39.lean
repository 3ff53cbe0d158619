/- Part 39: Plain: what the targets of an outline say; the steps from alias to alias. -/
import Derived.Test.YtclkilljmdkfaaaTy1
import Derived.Test.YtclkilljmdkfaaaTy34
import Derived.Test.YtclkilljmdkfaaaTy35
import Derived.Test.YtclkilljmdkfaaaTy38
set_option maxRecDepth 100000
set_option maxHeartbeats 4000000
namespace Go.Proofs.Ytclkilljmdkfaaa
open Go.RowKit Go.Shelf
theorem kidG_map (f:Tr → Tr) (hf:∀ t,(f t).text = t.text):(l:List Tr) → (x:ByteArray) → kidG (l.map f) x = kidG l x
 | [],_=>rfl
 | t :: r,x=>by rw [List.map_cons,kidG,kidG,hf,kidG_map f hf r x]
theorem outD_text (t:Tr):(Qfh t).text = t.text:=rfl
theorem outM_text (t:Tr):(outM t).text = t.text:=rfl
theorem outM_kids (t:Tr):(outM t).kids = t.kids.map Qfh:=rfl
theorem inModP_out (ps:List Tr) (i:Nat) (x:ByteArray):Qc9 (Qfi ps) i x = Qc9 ps i x:=by
 unfold Qc9
 rw [outP_get]
 cases ps[i]? with
 | none=>rfl
 | some t=>rw [Option.map_some,Option.getD_some,Option.getD_some,outM_kids,kidG_map Qfh outD_text,List.length_map]
theorem lookP_out (ps:List Tr) (m:Nat) (s:ByteArray):Qaw (Qfi ps) m s = Qaw ps m s:=by
 unfold Qaw
 rw [inModP_out,inModP_out]
 unfold Qfi
 rw [kidG_map outM outM_text,List.length_map]
def DefOk (k:Tr):Prop:=(k.kind = 2 ∨ k.kind = 3) ∧ Qa1 k = true ∧ Qao k ≤ 1000
theorem def_ok {ps:List Tr} (hz:∀ t ∈ ps,Qao t ≤ 1000) (hg:Qbv ps = true) {m d:Nat} {t k:Tr} (ht:ps[m]? = some t) (hk:t.kids[d]? = some k):DefOk k:=by
 obtain ⟨q1,q2⟩:=Qdy hg ht
 have hzt:=hz t (List.mem_of_getElem? ht)
 rw [← Qbq _ t (xA _) hzt] at q2
 obtain ⟨r1,r2⟩:=(Qd7 q2).2.2 d k hk
 refine ⟨?_,r2,by have:=Qdu hk;omega⟩
 rw [q1] at r1
 have e:kidR 1 t.kids.length d k.kind = (k.kind == 2 || k.kind == 3):=rfl
 rw [e] at r1
 simpa using r1
def Qcq (k:Tr):Tr:=Qa2 ((k.kids[0]?).getD noTr)
theorem leaf_ok {k:Tr} (h:DefOk k) (h3:k.kind = 3):∃ a,k.kids = [a] ∧ Qcq k = Qa2 a ∧ ((Qa2 a).kind = 5 ∨ (Qa2 a).kind = 6 ∨ (Qa2 a).kind = 7 ∨ (Qa2 a).kind = 9) ∧ (Qa2 a).kids = [] ∧ ((Qa2 a).kind ≠ 9 → (Qa2 a).text = ⟨#[]⟩) ∧ Qa1 (Qa2 a) = true ∧ Qa1 a = true ∧ (5 ≤ a.kind ∧ a.kind ≤ 9):=by
 obtain ⟨a,h1,h2,h4⟩:=alias_kid h.2.1 h3
 obtain ⟨c1,c2,c3,c4⟩:=core_type _ a (xA _) h4 h2
 exact ⟨a,h1,by unfold Qcq;rw [h1];rfl,c1,c2,c3,c4,h4,h2⟩
def hitD (ps:List Tr) (m:Nat) (k:Tr) (p:List Int):List Tgt:=if k.kind = 3 ∧ (Qcq k).kind = 9 then [(p ++ [0],(Qaw ps m (Qcq k).text).1,(Qaw ps m (Qcq k).text).2.1,!(Qaw ps m (Qcq k).text).2.2)] else []
theorem tgtT_leaf (q:List Tr) (m:Nat) (t:Tr) (p:List Int) (h:t.kids = []):tgtT q m t p = hitP q m t p:=by rw [tgtT_eq,h,tgtL,List.append_nil]
theorem hitP_no {q:List Tr} {m:Nat} {t:Tr} {p:List Int} (h:¬ (t.kind = 16 ∨ t.kind = 9)):hitP q m t p = []:=by unfold hitP;rw [if_neg h]
theorem tgtT_outD (ps:List Tr) (m:Nat) (k:Tr) (p:List Int) (h:DefOk k):tgtT (Qfi ps) m (Qfh k) p = hitD ps m k p:=by
 have e0:(Qfh k).kind = k.kind:=rfl
 rw [tgtT_eq,hitP_no (by rw [e0];have:=h.1;omega),List.nil_append]
 unfold hitD
 by_cases h3:k.kind = 3
 ·obtain ⟨a,h1,h2,c1,c2,_⟩:=leaf_ok h h3
  have e1:(Qfh k).kids = [Qcq k]:=by unfold Qfh Qcq;rw [if_pos h3];rfl
  rw [e1,tgtL,tgtL,List.append_nil,tgtT_leaf _ _ _ _ (by rw [h2];exact c2)]
  unfold hitP
  by_cases h9:(Qcq k).kind = 9
  ·rw [if_pos (.inr h9),if_pos ⟨h3,h9⟩,lookP_out]
   rfl
  ·rw [if_neg (by rw [h2] at h9 ⊢;omega),if_neg (fun h=>h9 h.2)]
 ·have e1:(Qfh k).kids = [Qcs 5,Qcs 15]:=by unfold Qfh;rw [if_neg h3];rfl
  rw [e1,tgtL,tgtL,tgtL,tgtT_leaf _ _ _ _ rfl,tgtT_leaf _ _ _ _ rfl,hitP_no (by decide),hitP_no (by decide),if_neg (fun h=>h3 h.1)]
  rfl
theorem tgtL_out_mem (ps:List Tr) (m:Nat) (z:Tgt):(l:List Tr) → (n:Nat) → (∀ k ∈ l,DefOk k) → (z ∈ tgtL (Qfi ps) m (l.map Qfh) n [] ↔ ∃ (d:Nat) (k:Tr),l[d]? = some k ∧ z ∈ hitD ps m k [((n + d:Nat):Int)])
 | [],n,_=>by rw [List.map_nil,tgtL];simp
 | a :: r,n,h=>by
  rw [List.map_cons,tgtL,List.mem_append,List.nil_append,tgtT_outD ps m a _ (h a (by simp)),tgtL_out_mem ps m z r (n + 1) fun k hk=>h k (by simp [hk])]
  constructor
  ·rintro (h1 | ⟨d,k,h1,h2⟩)
   ·exact ⟨0,a,rfl,h1⟩
   ·exact ⟨d + 1,k,by simpa using h1,by rw [show n + (d + 1) = n + 1 + d from by omega];exact h2⟩
  ·rintro ⟨d,k,h1,h2⟩
   match d,h1,h2 with
   | 0,h1,h2 =>
    injection h1 with h1
    subst h1
    exact .inl h2
   | d + 1,h1,h2=>exact .inr ⟨d,k,by simpa using h1,by rw [show n + 1 + d = n + (d + 1) from by omega];exact h2⟩
theorem tgtPs_mem_iff (q:List Tr) (z:Tgm):(l:List Tr) → (i:Nat) → (z ∈ Qfl q l i ↔ ∃ (m:Nat) (t:Tr),l[m]? = some t ∧ z ∈ tgtM q (i + m) t [])
 | [],i=>by rw [Qfl];simp
 | a :: r,i=>by
  rw [Qfl,List.mem_append,tgtPs_mem_iff q z r (i + 1)]
  constructor
  ·rintro (h1 | ⟨m,t,h1,h2⟩)
   ·exact ⟨0,a,rfl,h1⟩
   ·exact ⟨m + 1,t,by simpa using h1,by rw [show i + (m + 1) = i + 1 + m from by omega];exact h2⟩
  ·rintro ⟨m,t,h1,h2⟩
   match m,h1,h2 with
   | 0,h1,h2 =>
    injection h1 with h1
    subst h1
    exact .inl h2
   | m + 1,h1,h2=>exact .inr ⟨m,t,by simpa using h1,by rw [show i + 1 + m = i + (m + 1) from by omega];exact h2⟩
theorem out_uses {ps:List Tr} (hz:∀ t ∈ ps,Qao t ≤ 1000) (hg:Qbv ps = true) (hq:Qbv (Qfi ps) = true) (z:Tgm):z ∈ tgtsG (Qfi ps) ↔ ∃ (m d:Nat) (t k:Tr),ps[m]? = some t ∧ t.kids[d]? = some k ∧ z.1 = (m:Int) ∧ z.2 ∈ hitD ps m k [(d:Int)]:=by
 unfold tgtsG
 rw [if_pos hq,tgtPs_mem_iff]
 constructor
 ·rintro ⟨m,t',h1,h2⟩
  rw [outP_get] at h1
  obtain ⟨t,ht,rfl⟩:=Option.map_eq_some_iff.1 h1
  rw [Nat.zero_add] at h2
  unfold tgtM at h2
  obtain ⟨x,hx,rfl⟩:=List.mem_map.1 h2
  have e0:(outM t).kind = t.kind:=rfl
  rw [tgtT_eq,hitP_no (by rw [e0,(Qdy hg ht).1];decide),List.nil_append,outM_kids,tgtL_out_mem ps m x t.kids 0 (fun k hk=>by obtain ⟨d,hd,he⟩:=List.getElem_of_mem hk;exact def_ok hz hg ht (d:=d) (by rw [xF hd,he]))] at hx
  obtain ⟨d,k,q1,q2⟩:=hx
  rw [Nat.zero_add] at q2
  exact ⟨m,d,t,k,ht,q1,rfl,q2⟩
 ·rintro ⟨m,d,t,k,ht,hk,h1,h2⟩
  refine ⟨m,outM t,by rw [outP_get,ht];rfl,?_⟩
  rw [Nat.zero_add]
  unfold tgtM
  refine List.mem_map.2 ⟨z.2,?_,by rw [← h1]⟩
  have e0:(outM t).kind = t.kind:=rfl
  rw [tgtT_eq,hitP_no (by rw [e0,(Qdy hg ht).1];decide),List.nil_append,outM_kids,tgtL_out_mem ps m z.2 t.kids 0 (fun k hk=>by obtain ⟨d,hd,he⟩:=List.getElem_of_mem hk;exact def_ok hz hg ht (d:=d) (by rw [xF hd,he]))]
  exact ⟨d,k,hk,by rw [Nat.zero_add];exact h2⟩
def keyZ (z:Tgm):Pr:=(z.1,z.2.1.headD 0)
def refsFrom (f:Pr → Option Pr) (zs:List Tgm):Pr → Option Pr:=zs.foldl (fun f z=>if z.2.2.2.2 = true then f else updF f (keyZ z) (z.2.2.1,z.2.2.2.1)) f
def refsF (zs:List Tgm):Pr → Option Pr:=refsFrom (fun _=>none) zs
theorem refsF_step {zs:List Tgm} {j:Nat} {z:Tgm} (h:zs[j]? = some z):refsF (zs.take (j + 1)) = if z.2.2.2.2 = true then refsF (zs.take j) else updF (refsF (zs.take j)) (keyZ z) (z.2.2.1,z.2.2.2.1):=by
 unfold refsF refsFrom
 rw [List.take_add_one,h,Option.toList_some,List.foldl_append]
 rfl
theorem refs_none (a:Pr):(zs:List Tgm) → (f:Pr → Option Pr) → f a = none → (∀ z ∈ zs,z.2.2.2.2 = false → keyZ z ≠ a) → refsFrom f zs a = none
 | [],f,hf,_=>hf
 | z :: r,f,hf,h=>by
  show refsFrom (if z.2.2.2.2 = true then f else updF f (keyZ z) (z.2.2.1,z.2.2.2.1)) r a = none
  refine refs_none a r _ ?_ fun y hy=>h y (by simp [hy])
  split
  ·exact hf
  ·rename_i hz
   unfold updF
   rw [if_neg (fun e=>h z (by simp) (by simpa using hz) e.symm)]
   exact hf
theorem refs_some (a v:Pr):(zs:List Tgm) → (f:Pr → Option Pr) → (∀ z ∈ zs,z.2.2.2.2 = false → keyZ z = a → (z.2.2.1,z.2.2.2.1) = v) → (f a = some v ∨ ∃ z ∈ zs,z.2.2.2.2 = false ∧ keyZ z = a) → refsFrom f zs a = some v
 | [],f,_,h=>by
  rcases h with h | ⟨z,hz,_⟩
  ·exact h
  ·simp at hz
 | z :: r,f,hu,h=>by
  show refsFrom (if z.2.2.2.2 = true then f else updF f (keyZ z) (z.2.2.1,z.2.2.2.1)) r a = some v
  refine refs_some a v r _ (fun y hy=>hu y (by simp [hy])) ?_
  by_cases hz:z.2.2.2.2 = true
  ·rw [if_pos hz]
   rcases h with h | ⟨y,hy,h1,h2⟩
   ·exact .inl h
   ·rcases List.mem_cons.1 hy with rfl | hy
    ·rw [hz] at h1;cases h1
    ·exact .inr ⟨y,hy,h1,h2⟩
  ·rw [if_neg hz]
   have hz':z.2.2.2.2 = false:=by simpa using hz
   by_cases hk:keyZ z = a
   ·refine .inl ?_
    unfold updF
    rw [if_pos hk.symm,hu z (by simp) hz' hk]
   ·rcases h with h | ⟨y,hy,h1,h2⟩
    ·refine .inl ?_
     unfold updF
     rw [if_neg (fun e=>hk e.symm)]
     exact h
    ·rcases List.mem_cons.1 hy with rfl | hy
     ·exact absurd h2 hk
     ·exact .inr ⟨y,hy,h1,h2⟩
def Qca (ps:List Tr) (a:Pr):Option Pr :=
 if 0 ≤ a.1 ∧ 0 ≤ a.2 ∧ (defT ps a.1.toNat a.2.toNat).kind = 3 ∧ (Qcq (defT ps a.1.toNat a.2.toNat)).kind = 9 ∧ (Qaw ps a.1.toNat (Qcq (defT ps a.1.toNat a.2.toNat)).text).2.2 = true
 then some ((Qaw ps a.1.toNat (Qcq (defT ps a.1.toNat a.2.toNat)).text).1,(Qaw ps a.1.toNat (Qcq (defT ps a.1.toNat a.2.toNat)).text).2.1) else none
theorem defT_get {ps:List Tr} {m d:Nat} {t k:Tr} (ht:ps[m]? = some t) (hk:t.kids[d]? = some k):defT ps m d = k:=by unfold defT;rw [ht,Option.getD_some,hk,Option.getD_some]
theorem defT_some {ps:List Tr} {m d:Nat} (h:(defT ps m d).kind = 3):∃ t k,ps[m]? = some t ∧ t.kids[d]? = some k ∧ defT ps m d = k:=by
 unfold defT at h ⊢
 cases ht:ps[m]? with
 | none=>rw [ht] at h;exact absurd h (by simp [noTr,Tr.kids,Tr.kind])
 | some t =>
  rw [ht,Option.getD_some] at h
  rw [Option.getD_some]
  cases hk:t.kids[d]? with
  | none=>rw [hk] at h;exact absurd h (by simp [noTr,Tr.kind])
  | some k=>exact ⟨t,k,rfl,hk,rfl⟩
theorem refs_out {ps:List Tr} (hz:∀ t ∈ ps,Qao t ≤ 1000) (hg:Qbv ps = true) (hq:Qbv (Qfi ps) = true):refsF (tgtsG (Qfi ps)) = Qca ps:=by
 funext a
 have hm:=out_uses hz hg hq
 have hz2:∀ z ∈ tgtsG (Qfi ps),∃ (m d:Nat) (t k:Tr),ps[m]? = some t ∧ t.kids[d]? = some k ∧ k.kind = 3 ∧ (Qcq k).kind = 9 ∧ keyZ z = ((m:Int),(d:Int)) ∧ z.2.2 = ((Qaw ps m (Qcq k).text).1,(Qaw ps m (Qcq k).text).2.1,!(Qaw ps m (Qcq k).text).2.2):=fun z h=>by
  obtain ⟨m,d,t,k,ht,hk,h1,h2⟩:=(hm z).1 h
  unfold hitD at h2
  split at h2
  ·rename_i hh
   rw [List.mem_singleton] at h2
   refine ⟨m,d,t,k,ht,hk,hh.1,hh.2,?_,by rw [h2]⟩
   unfold keyZ
   rw [h1,h2]
   rfl
  ·simp at h2
 unfold Qca
 split
 ·rename_i hc
  obtain ⟨c1,c2,c3,c4,c5⟩:=hc
  obtain ⟨t,k,ht,hk,hd⟩:=defT_some c3
  rw [hd] at c3 c4 c5 ⊢
  have ea:a = (((a.1.toNat:Nat):Int),((a.2.toNat:Nat):Int)):=by
   obtain ⟨x,y⟩:=a
   simp only at c1 c2 ⊢
   rw [Int.toNat_of_nonneg c1,Int.toNat_of_nonneg c2]
  refine refs_some a _ _ _ (fun z hzz hf hke=>?_) (.inr ?_)
  ·obtain ⟨m',d',t',k',ht',hk',_,_,q1,q2⟩:=hz2 z hzz
   rw [q1] at hke
   rw [ea] at hke
   injection hke with e1 e2
   have e1:m' = a.1.toNat:=by omega
   have e2:d' = a.2.toNat:=by omega
   subst e1 e2
   rw [ht] at ht'
   injection ht' with ht'
   subst ht'
   rw [hk] at hk'
   injection hk' with hk'
   subst hk'
   rw [q2]
  ·refine ⟨(((a.1.toNat:Nat):Int),[((a.2.toNat:Nat):Int)] ++ [0],(Qaw ps a.1.toNat (Qcq k).text).1,(Qaw ps a.1.toNat (Qcq k).text).2.1,!(Qaw ps a.1.toNat (Qcq k).text).2.2),(hm _).2 ⟨a.1.toNat,a.2.toNat,t,k,ht,hk,rfl,?_⟩,?_,?_⟩
   ·unfold hitD
    rw [if_pos ⟨c3,c4⟩]
    exact List.mem_singleton.2 rfl
   ·show (!(Qaw ps a.1.toNat (Qcq k).text).2.2) = false
    rw [c5];rfl
   ·rw [ea];rfl
 ·rename_i hc
  refine refs_none a _ _ rfl fun z hzz hf hke=>hc ?_
  obtain ⟨m,d,t,k,ht,hk,q3,q9,q1,q2⟩:=hz2 z hzz
  rw [q1] at hke
  subst hke
  simp only [Int.toNat_natCast]
  rw [defT_get ht hk]
  refine ⟨by omega,by omega,q3,q9,?_⟩
  rw [q2] at hf
  simpa using hf
theorem step_look {ps:List Tr} {m d:Nat} (h3:(defT ps m d).kind = 3) (h9:(Qcq (defT ps m d)).kind = 9):((lookF (Qca ps) ((m:Int),(d:Int))).1,(lookF (Qca ps) ((m:Int),(d:Int))).2,(Qca ps ((m:Int),(d:Int))).isSome) = Qaw ps m (Qcq (defT ps m d)).text:=by
 unfold lookF Qca
 simp only [Int.toNat_natCast]
 cases hf:(Qaw ps m (Qcq (defT ps m d)).text).2.2 with
 | true =>
  rw [if_pos ⟨by omega,by omega,h3,h9,rfl⟩,Option.getD_some,Option.isSome_some]
  rw [← hf]
 | false =>
  rw [if_neg (fun h=>by cases h.2.2.2.2),Option.getD_none,Option.isSome_none,look_no hf]
end Go.Proofs.Ytclkilljmdkfaaa
