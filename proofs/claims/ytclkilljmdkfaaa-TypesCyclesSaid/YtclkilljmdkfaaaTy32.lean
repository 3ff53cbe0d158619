/- Part 32: Plain: what a type is without aliases, as a walk along them; the facts of shape that it wants. -/
import Derived.Test.YtclkilljmdkfaaaTy1
import Derived.Test.YtclkilljmdkfaaaTy31
set_option maxRecDepth 100000
set_option maxHeartbeats 4000000
namespace Go.Proofs.Ytclkilljmdkfaaa
open Go.RowKit
mutual
def Qa2:Tr → Tr
 | .mk k x ls ks=>if k = 8 then coreL ks else .mk k x ls ks
def coreL:List Tr → Tr
 | []=>noTr
 | t :: _=>Qa2 t
end
mutual
def Qa7:Tr → Nat
 | .mk k _ _ ks=>if k = 8 then listsL ks + 1 else 0
def listsL:List Tr → Nat
 | []=>0
 | t :: _=>Qa7 t
end
theorem core_list {t k:Tr} {r:List Tr} (h8:t.kind = 8) (hk:t.kids = k :: r):Qa2 t = Qa2 k ∧ Qa7 t = Qa7 k + 1:=by
 cases t with
 | mk kd x ls ks =>
  have e1:kd = 8:=h8
  have e2:ks = k :: r:=hk
  subst e1 e2
  constructor
  ·rw [Qa2,if_pos rfl,coreL]
  ·rw [Qa7,if_pos rfl,listsL]
theorem Qdm {t:Tr} (h8:t.kind ≠ 8):Qa2 t = t ∧ Qa7 t = 0:=by
 cases t with
 | mk kd x ls ks =>
  have e1:¬ kd = 8:=h8
  constructor
  ·rw [Qa2,if_neg e1]
  ·rw [Qa7,if_neg e1]
def wrapT:Nat → Tr → Tr
 | 0,u=>u
 | n + 1,u=>.mk 8 ⟨#[]⟩ [] [wrapT n u]
def Qcs (k:Int):Tr:=.mk k ⟨#[]⟩ [] []
theorem shapedRL_in (k:Int) (n:Nat):∀ (l:List Tr) (i j:Nat) (a:Tr),Qa0 k n i l = true → l[j]? = some a → kidR k n (i + j) a.kind = true ∧ Qa1 a = true
 | [],_,j,_,_,h=>by simp at h
 | b :: r,i,0,a,h,ha=>by
  rw [Qa0,Bool.and_eq_true,Bool.and_eq_true] at h
  simp at ha
  subst ha
  exact h.1
 | b :: r,i,j + 1,a,h,ha=>by
  rw [Qa0,Bool.and_eq_true] at h
  have:=shapedRL_in k n r (i + 1) j a h.2 (by simpa using ha)
  rwa [show i + 1 + j = i + (j + 1) from by omega] at this
theorem Qd7 {t:Tr} (h:Qa1 t = true):0 ≤ Qey t.kind t.kids.length ∧ Qa6 (Qae t.kind) t.text = true ∧ ∀ (j:Nat) (a:Tr),t.kids[j]? = some a → kidR t.kind t.kids.length j a.kind = true ∧ Qa1 a = true:=by
 rw [Qb7,Bool.and_eq_true,Bool.and_eq_true] at h
 refine ⟨?_,h.1.2,fun j a ha=>?_⟩
 ·have h1:=h.1.1
  rw [Bool.not_eq_true'] at h1
  have h2:=of_decide_eq_false h1
  omega
 ·have:=shapedRL_in _ _ _ 0 j a h.2 ha
  rwa [Nat.zero_add] at this
theorem only_is {n m k:Int} (_hk:0 ≤ k) (h:0 ≤ Qa4 n m k):n = m:=by
 unfold Qa4 at h
 split at h
 ·assumption
 ·omega
theorem hasB_type {k:Int} (h:Qde 3 k = true):5 ≤ k ∧ k ≤ 9:=by
 have e:Qde 3 k = (decide (5 ≤ k) && decide (k ≤ 9)):=rfl
 rw [e] at h
 simpa using h
theorem one_kid {t:Tr} (h:(t.kids.length:Int) = 1):∃ k,t.kids = [k]:=by
 cases hk:t.kids with
 | nil=>rw [hk] at h;simp at h
 | cons a r =>
  cases r with
  | nil=>exact ⟨a,rfl⟩
  | cons b r=>rw [hk] at h;simp at h;omega
theorem type_cases {t:Tr} (h:Qa1 t = true) (hk:5 ≤ t.kind ∧ t.kind ≤ 9):(t.kind = 8 ∧ ∃ k,t.kids = [k] ∧ (5 ≤ k.kind ∧ k.kind ≤ 9) ∧ Qa1 k = true) ∨ (t.kind ≠ 8 ∧ t.kids = [] ∧ (t.kind ≠ 9 → t.text = ⟨#[]⟩)):=by
 obtain ⟨h1,h2,h3⟩:=Qd7 h
 rcases (show t.kind = 5 ∨ t.kind = 6 ∨ t.kind = 7 ∨ t.kind = 8 ∨ t.kind = 9 from by omega) with e | e | e | e | e
 ·rw [e] at h1 h2
  refine .inr ⟨by omega,?_,fun _=>?_⟩
  ·have:=only_is (by decide) (show 0 ≤ Qa4 t.kids.length 0 1 from h1)
   exact List.eq_nil_of_length_eq_zero (by omega)
  ·have e2:Qa6 (Qae 5) t.text = is t.text []:=rfl
   rw [e2] at h2
   have h4:=eq_of_beq (show (t.text.data.toList == ([]:List UInt8)) = true from h2)
   cases hx:t.text with
   | mk d=>rw [hx] at h4;cases d;simp at h4;subst h4;rfl
 ·rw [e] at h1 h2
  refine .inr ⟨by omega,?_,fun _=>?_⟩
  ·have:=only_is (by decide) (show 0 ≤ Qa4 t.kids.length 0 1 from h1)
   exact List.eq_nil_of_length_eq_zero (by omega)
  ·have e2:Qa6 (Qae 6) t.text = is t.text []:=rfl
   rw [e2] at h2
   have h4:=eq_of_beq (show (t.text.data.toList == ([]:List UInt8)) = true from h2)
   cases hx:t.text with
   | mk d=>rw [hx] at h4;cases d;simp at h4;subst h4;rfl
 ·rw [e] at h1 h2
  refine .inr ⟨by omega,?_,fun _=>?_⟩
  ·have:=only_is (by decide) (show 0 ≤ Qa4 t.kids.length 0 1 from h1)
   exact List.eq_nil_of_length_eq_zero (by omega)
  ·have e2:Qa6 (Qae 7) t.text = is t.text []:=rfl
   rw [e2] at h2
   have h4:=eq_of_beq (show (t.text.data.toList == ([]:List UInt8)) = true from h2)
   cases hx:t.text with
   | mk d=>rw [hx] at h4;cases d;simp at h4;subst h4;rfl
 ·rw [e] at h1
  obtain ⟨k,hk'⟩:=one_kid (only_is (by decide) (show 0 ≤ Qa4 t.kids.length 1 2 from h1))
  obtain ⟨q1,q2⟩:=h3 0 k (by rw [hk'];rfl)
  rw [e] at q1
  exact .inl ⟨e,k,hk',hasB_type q1,q2⟩
 ·rw [e] at h1
  refine .inr ⟨by omega,?_,fun h=>absurd e h⟩
  have:=only_is (by decide) (show 0 ≤ Qa4 t.kids.length 0 1 from h1)
  exact List.eq_nil_of_length_eq_zero (by omega)
theorem alias_kid {t:Tr} (h:Qa1 t = true) (h3:t.kind = 3):∃ k,t.kids = [k] ∧ (5 ≤ k.kind ∧ k.kind ≤ 9) ∧ Qa1 k = true:=by
 obtain ⟨h1,_,h4⟩:=Qd7 h
 rw [h3] at h1
 obtain ⟨k,hk'⟩:=one_kid (only_is (by decide) (show 0 ≤ Qa4 t.kids.length 1 3 from h1))
 obtain ⟨q1,q2⟩:=h4 0 k (by rw [hk'];rfl)
 rw [h3] at q1
 exact ⟨k,hk',hasB_type q1,q2⟩
theorem func_kids2 {t:Tr} (h:Qa1 t = true) (h2:t.kind = 2):2 ≤ t.kids.length:=by
 obtain ⟨h1,_,_⟩:=Qd7 h
 rw [h2] at h1
 have e:Qey 2 t.kids.length = if (2:Int) ≤ t.kids.length then 6 + max 0 ((t.kids.length:Int) - 3) else -1:=rfl
 rw [e] at h1
 split at h1 <;> omega
theorem core_type (N:Nat):∀ t:Tr,SizeOf.sizeOf t ≤ N → Qa1 t = true → 5 ≤ t.kind ∧ t.kind ≤ 9 → ((Qa2 t).kind = 5 ∨ (Qa2 t).kind = 6 ∨ (Qa2 t).kind = 7 ∨ (Qa2 t).kind = 9) ∧ (Qa2 t).kids = [] ∧ ((Qa2 t).kind ≠ 9 → (Qa2 t).text = ⟨#[]⟩) ∧ Qa1 (Qa2 t) = true:=by
 induction N with
 | zero=>intro t h;have:=tr_pos t;omega
 | succ N ih =>
  intro t hN h hk
  rcases type_cases h hk with ⟨h8,k,hkk,h1,h2⟩ | ⟨h8,h1,h2⟩
  ·rw [(core_list h8 hkk).1]
   exact ih k (by have:=Qdv (t:=t) (j:=0) (k:=k) (by rw [hkk];rfl);omega) h2 h1
  ·rw [(Qdm h8).1]
   exact ⟨by omega,h1,h2,h⟩
def defT (ps:List Tr) (m d:Nat):Tr:=(((ps[m]?).getD noTr).kids[d]?).getD noTr
def typeD (ps:List Tr) (m d:Nat):Tr:=((defT ps m d).kids[0]?).getD noTr
def goL (ps:List Tr):Nat → Int × Int × Bool → List (Int × Int) → Nat → Option (Int × Nat × Int)
 | 0,_,_,_=>none
 | f + 1,r,met,n =>
  if r.2.2 = true then
   (if (r.1,r.2.1) ∈ met then some (19,0,0)
    else if (Qa2 (typeD ps r.1.toNat r.2.1.toNat)).kind = 9 then goL ps f (Qaw ps r.1.toNat (Qa2 (typeD ps r.1.toNat r.2.1.toNat)).text) (met ++ [(r.1,r.2.1)]) (n + Qa7 (typeD ps r.1.toNat r.2.1.toNat))
    else some (0,n + Qa7 (typeD ps r.1.toNat r.2.1.toNat),(Qa2 (typeD ps r.1.toNat r.2.1.toNat)).kind))
  else some (7,0,0)
def allD:List Tr → Nat → List (Int × Int)
 | [],_=>[]
 | t :: r,i=>((List.range t.kids.length).map fun d=>((i:Int),((d:Nat):Int))) ++ allD r (i + 1)
theorem allD_mem:(l:List Tr) → (i m d:Nat) → (t:Tr) → l[m]? = some t → d < t.kids.length → (((i + m:Nat):Int),(d:Int)) ∈ allD l i
 | [],_,m,_,_,h,_=>by simp at h
 | a :: r,i,0,d,t,h,hd=>by
  simp at h
  subst h
  rw [allD]
  exact List.mem_append_left _ (List.mem_map.2 ⟨d,List.mem_range.2 hd,rfl⟩)
 | a :: r,i,m + 1,d,t,h,hd=>by
  rw [allD]
  have:=allD_mem r (i + 1) m d t (by simpa using h) hd
  rw [show i + 1 + m = i + (m + 1) from by omega] at this
  exact List.mem_append_right _ this
theorem allD_len:(l:List Tr) → (i:Nat) → (allD l i).length ≤ Qah l
 | [],_=>by rw [allD,Qah];exact xA _
 | t :: r,i=>by
  rw [allD,xB,List.length_map,List.length_range,Qah,Qbd t]
  have h1:=allD_len r (i + 1)
  have h2:=Qas t.kids
  omega
theorem nodup_len {α:Type} [DecidableEq α]:(l a:List α) → l.Nodup → (∀ x ∈ l,x ∈ a) → l.length ≤ a.length
 | [],_,_,_=>Nat.zero_le _
 | x :: l,a,hn,hs=>by
  obtain ⟨h1,h2⟩:=List.nodup_cons.1 hn
  have hx:x ∈ a:=hs x (by simp)
  have ih:=nodup_len l (a.erase x) h2 fun y hy=>(List.mem_erase_of_ne (fun e=>by subst e;exact h1 hy)).2 (hs y (by simp [hy]))
  rw [List.length_erase_of_mem hx] at ih
  have:=List.length_pos_of_mem hx
  rw [xD]
  omega
theorem nodup_snoc {α:Type} {l:List α} {x:α} (h:l.Nodup) (hx:x ∉ l):(l ++ [x]).Nodup:=by
 rw [List.nodup_append]
 refine ⟨h,by simp,fun a ha b hb e=>?_⟩
 simp at hb
 subst hb e
 exact hx ha
def InD (ps:List Tr) (a:Int × Int):Prop:=∃ (m d:Nat) (t k:Tr),a = ((m:Int),(d:Int)) ∧ ps[m]? = some t ∧ t.kids[d]? = some k
theorem InD.mem {ps:List Tr} {a:Int × Int} (h:InD ps a):a ∈ allD ps 0:=by
 obtain ⟨m,d,t,k,rfl,h1,h2⟩:=h
 have:=allD_mem ps 0 m d t h1 (List.getElem?_eq_some_iff.1 h2).1
 rwa [Nat.zero_add] at this
theorem met_len {ps:List Tr} {met:List (Int × Int)} (hn:met.Nodup) (hm:∀ a ∈ met,InD ps a):met.length ≤ Qah ps:=Nat.le_trans (nodup_len met (allD ps 0) hn fun a ha=>(hm a ha).mem) (allD_len ps 0)
theorem kid_first':(l:List Tr) → (x:ByteArray) → kidG l x < l.length → ∃ t,l[kidG l x]? = some t ∧ t.text = x
 | [],x,h=>by simp at h
 | a :: r,x,h=>by
  by_cases hx:a.text = x
  ·rw [kidG,if_pos hx]
   exact ⟨a,rfl,hx⟩
  ·rw [kidG,if_neg hx] at h ⊢
   obtain ⟨t,h1,h2⟩:=kid_first' r x (by simpa using h)
   exact ⟨t,by simpa using h1,h2⟩
theorem inMod_found' {ps:List Tr} {i:Nat} {x:ByteArray} (h:(Qc9 ps i x).2.2 = true):∃ (t k:Tr) (d:Nat),ps[i]? = some t ∧ t.kids[d]? = some k ∧ k.text = x ∧ Qc9 ps i x = ((i:Int),(d:Int),true):=by
 unfold Qc9 at h ⊢
 split at h
 ·rename_i hk
  cases ht:ps[i]? with
  | none=>rw [ht] at hk;exact absurd hk (by simp [noTr,Tr.kids])
  | some t =>
   rw [ht,Option.getD_some] at hk
   obtain ⟨k,h1,h2⟩:=kid_first' t.kids x hk
   refine ⟨t,k,_,rfl,h1,h2,?_⟩
   rw [Option.getD_some,if_pos hk]
 ·cases h
theorem look_def {ps:List Tr} {i:Nat} {s:ByteArray} (h:(Qaw ps i s).2.2 = true):∃ (m d:Nat) (t k:Tr),ps[m]? = some t ∧ t.kids[d]? = some k ∧ k.text = (divP s).2.1 ∧ Qaw ps i s = ((m:Int),(d:Int),true):=by
 unfold Qaw at h ⊢
 cases hd:(divP s).2.2 with
 | true =>
  rw [hd,if_pos rfl] at h
  rw [if_pos rfl]
  split at h
  ·rename_i hk
   obtain ⟨t,k,d,h1,h2,h3,h4⟩:=inMod_found' h
   rw [if_pos hk]
   exact ⟨_,d,t,k,h1,h2,h3,h4⟩
  ·cases h
 | false =>
  rw [hd,if_neg (by decide)] at h
  rw [if_neg (by decide)]
  obtain ⟨t,k,d,h1,h2,h3,h4⟩:=inMod_found' h
  exact ⟨i,d,t,k,h1,h2,h3,h4⟩
theorem look_in {ps:List Tr} {i:Nat} {s:ByteArray} (h:(Qaw ps i s).2.2 = true):InD ps ((Qaw ps i s).1,(Qaw ps i s).2.1):=by
 obtain ⟨m,d,t,k,h1,h2,_,h4⟩:=look_def h
 rw [h4]
 exact ⟨m,d,t,k,rfl,h1,h2⟩
theorem look_no {ps:List Tr} {i:Nat} {s:ByteArray} (h:(Qaw ps i s).2.2 = false):Qaw ps i s = (0,0,false):=by
 unfold Qaw Qc9 at h ⊢
 split
 ·rename_i h1
  rw [if_pos h1] at h
  split
  ·rename_i h2
   rw [if_pos h2] at h
   split
   ·rename_i h3;rw [if_pos h3] at h;cases h
   ·rfl
  ·rfl
 ·rename_i h1
  rw [if_neg h1] at h
  split
  ·rename_i h3;rw [if_pos h3] at h;cases h
  ·rfl
theorem goL_total (ps:List Tr):(f:Nat) → (r:Int × Int × Bool) → (met:List (Int × Int)) → (n:Nat) → met.Nodup → (∀ a ∈ met,InD ps a) → (r.2.2 = true → InD ps (r.1,r.2.1)) → Qah ps + 1 ≤ f + met.length → ∃ R,goL ps f r met n = some R
 | 0,r,met,n,hn,hm,_,hf=>by
  have:=met_len hn hm
  omega
 | f + 1,r,met,n,hn,hm,hr,hf=>by
  rw [goL]
  split
  ·rename_i h
   split
   ·exact ⟨_,rfl⟩
   ·rename_i hx
    split
    ·refine goL_total ps f _ _ _ (nodup_snoc hn hx) (fun a ha=>?_) (fun h'=>look_in h') (by rw [xB,List.length_singleton];omega)
     rcases List.mem_append.1 ha with ha | ha
     ·exact hm a ha
     ·simp at ha
      subst ha
      exact hr h
    ·exact ⟨_,rfl⟩
  ·exact ⟨_,rfl⟩
def resP (ps:List Tr) (m:Nat) (t:Tr):Int × Nat × Int :=
 if (Qa2 t).kind = 9 then (goL ps (Qah ps + 1) (Qaw ps m (Qa2 t).text) [] (Qa7 t)).getD (0,0,0) else (0,Qa7 t,(Qa2 t).kind)
theorem resP_go {ps:List Tr} {m:Nat} {t:Tr} (h:(Qa2 t).kind = 9):goL ps (Qah ps + 1) (Qaw ps m (Qa2 t).text) [] (Qa7 t) = some (resP ps m t):=by
 obtain ⟨R,hR⟩:=goL_total ps (Qah ps + 1) (Qaw ps m (Qa2 t).text) [] (Qa7 t) List.nodup_nil (by simp) (fun h=>look_in h) (by simp)
 unfold resP
 rw [if_pos h,hR]
 rfl
def Qck (ps:List Tr) (m:Int) (t:Tr):Int × Nat × Int :=
 if Qbv ps = false ∨ m < 0 ∨ (ps.length:Int) ≤ m ∨ ¬ (5 ≤ t.kind ∧ t.kind ≤ 9) ∨ Qai t = false then (5,0,0) else resP ps m.toNat t
end Go.Proofs.Ytclkilljmdkfaaa
