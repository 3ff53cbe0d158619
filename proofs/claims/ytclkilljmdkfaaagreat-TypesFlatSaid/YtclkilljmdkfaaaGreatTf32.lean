/- Part 32 -/
import Derived.Test.YtclkilljmdkfaaaGreatTf28
import Derived.Test.YtclkilljmdkfaaaGreatTf29
import Derived.Test.YtclkilljmdkfaaaGreatTf30
import Derived.Test.YtclkilljmdkfaaaGreatTf31
import Derived.Test.YtclkilljmdkfaaaGreatTf26
set_option maxRecDepth 100000
set_option maxHeartbeats 4000000
namespace Go.Proofs.YtclkilljmdkfaaaGreat
open Go.RowKit
theorem Qlt (k:Int) (n:Nat):∀ (ks:List Tr) (i:Nat),Qbi k n i ks=true→∀ a∈ks,Qaz a=true
 | [],_,_,a,h=>by simp at h
 | b :: r,i,h,a,ha=>by
  rw [Qbi,Bool.and_eq_true,Bool.and_eq_true] at h
  rcases List.mem_cons.1 ha with rfl | ha
  ·exact h.1.2
  ·exact Qlt k n r (i+1) h.2 a ha
theorem Qm7 {t:Tr} (hz:Qah t≤1000) (h:Qal t=true):0≤Qar t.kind t.kids.length∧∀ a∈t.kids,Qal a=true:=by
 rw [←Qcw _ t (xA _) hz,Qel,Bool.and_eq_true,Bool.and_eq_true] at h
 refine ⟨by have h1:=h.1.1;rw [Bool.not_eq_true'] at h1;have h2:=of_decide_eq_false h1;omega,fun a ha=>?_⟩
 have h1:=Qlt _ _ _ _ h.2 a ha
 rw [←Qcw _ a (xA _) (by have h2:=Qu9 ha;have h3:=Qa3 t;omega)]
 exact h1
theorem Zf1 {α:Type} (l:List α) (h:2≤l.length):∃ qs a b,l=qs ++ [a,b]:=by
 have hd:(l.drop (l.length-2)).length=2:=by rw [List.length_drop];omega
 match hm:l.drop (l.length-2),hd with
 | [a,b],_=>exact ⟨l.take (l.length-2),a,b,by rw [←hm,List.take_append_drop]⟩
theorem Qd8 {n:Nat} {must m:Int} (h:0≤Qa7 n must m):(n:Int)=must:=by
 unfold Qa7 at h
 by_cases e:(n:Int)=must
 ·exact e
 ·rw [xN e] at h
  omega
theorem Zbu {α:Type} (l:List α) (h:l.length=2):∃ a b,l = [a,b]:=by
 match l,h with
 | [a,b],_=>exact ⟨a,b,rfl⟩
theorem Zbv {α:Type} (l:List α) (h:l.length=3):∃ a b c,l = [a,b,c]:=by
 match l,h with
 | [a,b,c],_=>exact ⟨a,b,c,rfl⟩
theorem Qm8:∀ N:Nat,PcC N
 | 0=>fun B l ps t v w h=>by have:=Qgu t;omega
 | N+1=>by
  have ih:=Qm8 N
  intro B l ps t v w hN ht hs hz hl hB hb
  obtain ⟨h1,h2⟩:=Qm7 hz hs
  have hkl:=ht.kl
  obtain ⟨k,x,ls,ks⟩:=t
  obtain ⟨vk,vx,vla,vll,vlc,vka,vkl,vkc⟩:=v
  simp only [Tr.kind,Tr.text,Tr.leads,Tr.kids] at hkl h1 h2
  obtain ⟨rfl,rfl,rfl,rfl⟩:=hkl
  by_cases h0:vk≤0∨23≤vk
  ·have hm:Qar vk ks.length = -1:=by unfold Qar;simp only [show vk≠1 from by omega,show vk≠2 from by omega,show vk≠3 from by omega,show vk≠4 from by omega,show vk≠5 from by omega,show vk≠6 from by omega,show vk≠7 from by omega,show vk≠8 from by omega,show vk≠9 from by omega,show vk≠10 from by omega,show vk≠11 from by omega,show vk≠12 from by omega,show vk≠13 from by omega,show vk≠14 from by omega,show vk≠15 from by omega,show vk≠16 from by omega,show vk≠17 from by omega,show vk≠18 from by omega,show vk≠19 from by omega,show vk≠20 from by omega,show vk≠21 from by omega,show vk≠22 from by omega,if_false]
   omega
  ·rcases Qil h0 with rfl | rfl | rfl | rfl | rfl | rfl | rfl | rfl | rfl | rfl | rfl | rfl | rfl | rfl | rfl | rfl | rfl | rfl | rfl | rfl | rfl | rfl
   ·exact Zbl ih B l ps vx ls ks vla vka vlc vkc w hN ht (fun j k hk=>h2 k (yA hk)) hz hl hB hb
   ·have hn:2≤ks.length:=by
     rcases Nat.lt_or_ge ks.length 2 with h' | h'
     ·have hm:Qar 2 ks.length = -1:=by show (if 2≤(ks.length:Int) then 6+max 0 ((ks.length:Int)-3) else -1)=_;rw [xN (by omega)]
      omega
     ·exact h'
    obtain ⟨qs,a,b,rfl⟩:=Zf1 ks hn
    have hlen:(qs ++ [a,b]).length=qs.length+2:=by simp
    rw [hlen] at ht ⊢
    exact Zbm ih B l ps vx ls qs a b vla vka vlc vkc w hN ht (h2 a (by simp)) (h2 b (by simp)) (fun k hk=>h2 k (by simp [hk])) hz hl hB hb
   ·have hn:=Qd8 (n:=ks.length) (must:=1) (m:=3) h1
    obtain ⟨a,rfl⟩:=List.length_eq_one_iff.1 (show ks.length=1 from by omega)
    exact Zbn ih B l ps vx ls a vla vka vlc vkc w hN ht (h2 a (by simp)) hz hl hB hb
   ·have hn:=Qd8 (n:=ks.length) (must:=1) (m:=2) h1
    obtain ⟨a,rfl⟩:=List.length_eq_one_iff.1 (show ks.length=1 from by omega)
    exact Zbo ih B l ps vx ls a vla vka vlc vkc w hN ht (h2 a (by simp)) hz hl hB hb
   ·obtain rfl:ks = []:=List.eq_nil_of_length_eq_zero (by have hn:=Qd8 (n:=ks.length) (must:=0) (m:=1) h1;omega)
    exact Zbq ih B l ps vx ls vla vka vlc vkc w hN ht hz hl hB hb
   ·obtain rfl:ks = []:=List.eq_nil_of_length_eq_zero (by have hn:=Qd8 (n:=ks.length) (must:=0) (m:=1) h1;omega)
    exact Zbr ih B l ps vx ls vla vka vlc vkc w hN ht hz hl hB hb
   ·obtain rfl:ks = []:=List.eq_nil_of_length_eq_zero (by have hn:=Qd8 (n:=ks.length) (must:=0) (m:=1) h1;omega)
    exact Zbs ih B l ps vx ls vla vka vlc vkc w hN ht hz hl hB hb
   ·have hn:=Qd8 (n:=ks.length) (must:=1) (m:=2) h1
    obtain ⟨a,rfl⟩:=List.length_eq_one_iff.1 (show ks.length=1 from by omega)
    exact Zbp ih B l ps vx ls a vla vka vlc vkc w hN ht (h2 a (by simp)) hz hl hB hb
   ·obtain rfl:ks = []:=List.eq_nil_of_length_eq_zero (by have hn:=Qd8 (n:=ks.length) (must:=0) (m:=1) h1;omega)
    exact Zbt ih B l ps vx ls vla vka vlc vkc w hN ht hz hl hB hb
   ·obtain rfl:ks = []:=List.eq_nil_of_length_eq_zero (by have hn:=Qd8 (n:=ks.length) (must:=0) (m:=1) h1;omega)
    exact Qxt ih B l ps vx ls vla vka vlc vkc w hN ht hz hl hB hb
   ·obtain rfl:ks = []:=List.eq_nil_of_length_eq_zero (by have hn:=Qd8 (n:=ks.length) (must:=0) (m:=1) h1;omega)
    exact Qxu ih B l ps vx ls vla vka vlc vkc w hN ht hz hl hB hb
   ·obtain rfl:ks = []:=List.eq_nil_of_length_eq_zero (by have hn:=Qd8 (n:=ks.length) (must:=0) (m:=1) h1;omega)
    exact Qxv ih B l ps vx ls vla vka vlc vkc w hN ht hz hl hB hb
   ·obtain rfl:ks = []:=List.eq_nil_of_length_eq_zero (by have hn:=Qd8 (n:=ks.length) (must:=0) (m:=1) h1;omega)
    exact Qxq ih B l ps vx ls vla vka vlc vkc w hN ht hz hl hB hb
   ·obtain rfl:ks = []:=List.eq_nil_of_length_eq_zero (by have hn:=Qd8 (n:=ks.length) (must:=0) (m:=1) h1;omega)
    exact Qxr ih B l ps vx ls vla vka vlc vkc w hN ht hz hl hB hb
   ·obtain rfl:ks = []:=List.eq_nil_of_length_eq_zero (by have hn:=Qd8 (n:=ks.length) (must:=0) (m:=1) h1;omega)
    exact Qxs ih B l ps vx ls vla vka vlc vkc w hN ht hz hl hB hb
   ·exact Qxo ih B l ps vx ls ks vla vka vlc vkc w hN ht (fun j k hk=>h2 k (yA hk)) hz hl hB hb
   ·have hn:=Qd8 (n:=ks.length) (must:=1) (m:=0) h1
    obtain ⟨a,rfl⟩:=List.length_eq_one_iff.1 (show ks.length=1 from by omega)
    exact Qxn ih B l ps vx ls a vla vka vlc vkc w hN ht (h2 a (by simp)) hz hl hB hb
   ·exact Qxp ih B l ps vx ls ks vla vka vlc vkc w hN ht (fun j k hk=>h2 k (yA hk)) hz hl hB hb
   ·have hn:=Qd8 (n:=ks.length) (must:=3) (m:=3) h1
    obtain ⟨a,b,c,rfl⟩:=Zbv ks (show ks.length=3 from by omega)
    exact Qxw ih B l ps vx ls a b c vla vka vlc vkc w hN ht (h2 a (by simp)) (h2 b (by simp)) (h2 c (by simp)) hz hl hB hb
   ·have hn:=Qd8 (n:=ks.length) (must:=2) (m:=4) h1
    obtain ⟨a,b,rfl⟩:=Zbu ks (show ks.length=2 from by omega)
    exact Qxx ih B l ps vx ls a b vla vka vlc vkc w hN ht (h2 a (by simp)) (h2 b (by simp)) hz hl hB hb
   ·have hn:=Qd8 (n:=ks.length) (must:=2) (m:=1) h1
    obtain ⟨a,b,rfl⟩:=Zbu ks (show ks.length=2 from by omega)
    exact Qxy ih B l ps vx ls a b vla vka vlc vkc w hN ht (h2 a (by simp)) (h2 b (by simp)) hz hl hB hb
   ·have hn:=Qd8 (n:=ks.length) (must:=1) (m:=2) h1
    obtain ⟨a,rfl⟩:=List.length_eq_one_iff.1 (show ks.length=1 from by omega)
    exact Qxm ih B l ps vx ls a vla vka vlc vkc w hN ht (h2 a (by simp)) hz hl hB hb
mutual
def Qb2:Tr→Tr
 | .mk k x ls ks=>if k=8 then Zks ks else .mk k x ls ks
def Zks:List Tr→Tr
 | []=>Qiw
 | t :: _=>Qb2 t
end
mutual
def Qcb:Tr→Nat
 | .mk k _ _ ks=>if k=8 then Qrx ks+1 else 0
def Qrx:List Tr→Nat
 | []=>0
 | t :: _=>Qcb t
end
theorem Qin {t k:Tr} {r:List Tr} (h8:t.kind=8) (hk:t.kids=k :: r):Qb2 t=Qb2 k∧Qcb t=Qcb k+1:=by
 cases t with
 | mk kd x ls ks =>
  have e1:kd=8:=h8
  have e2:ks=k :: r:=hk
  subst e1 e2
  constructor
  ·rw [Qb2,xO rfl,Zks]
  ·rw [Qcb,xO rfl,Qrx]
theorem Qio {t:Tr} (h8:t.kind≠8):Qb2 t=t∧Qcb t=0:=by
 cases t with
 | mk kd x ls ks =>
  have e1:¬ kd=8:=h8
  constructor
  ·rw [Qb2,xN e1]
  ·rw [Qcb,xN e1]
def Qcl:Nat→Tr→Tr
 | 0,u=>u
 | n+1,u=>.mk 8 ⟨#[]⟩ [] [Qcl n u]
def Qbu (k:Int):Tr:=.mk k ⟨#[]⟩ [] []
theorem Qm9 (k:Int) (n:Nat):∀ (l:List Tr) (i j:Nat) (a:Tr),Qbi k n i l=true→l[j]? = some a→Qgq k n (i+j) a.kind=true∧Qaz a=true
 | [],_,j,_,_,h=>by simp at h
 | b :: r,i,0,a,h,ha=>by
  rw [Qbi,Bool.and_eq_true,Bool.and_eq_true] at h
  simp at ha
  subst ha
  exact h.1
 | b :: r,i,j+1,a,h,ha=>by
  rw [Qbi,Bool.and_eq_true] at h
  have:=Qm9 k n r (i+1) j a h.2 (by simpa using ha)
  rwa [show i+1+j=i+(j+1) from by omega] at this
theorem Qgp {t:Tr} (h:Qaz t=true):0≤Qar t.kind t.kids.length∧Qa6 (Qae t.kind) t.text=true∧∀ (j:Nat) (a:Tr),t.kids[j]? = some a→Qgq t.kind t.kids.length j a.kind=true∧Qaz a=true:=by
 rw [Qel,Bool.and_eq_true,Bool.and_eq_true] at h
 refine ⟨?_,h.1.2,fun j a ha=>?_⟩
 ·have h1:=h.1.1
  rw [Bool.not_eq_true'] at h1
  have h2:=of_decide_eq_false h1
  omega
 ·have:=Qm9 _ _ _ 0 j a h.2 ha
  rwa [Nat.zero_add] at this
theorem Qk9 {n m k:Int} (_hk:0≤k) (h:0≤Qa7 n m k):n=m:=by
 unfold Qa7 at h
 split at h
 ·assumption
 ·omega
theorem Qry {k:Int} (h:Qe7 3 k=true):5≤k∧k≤9:=by
 have e:Qe7 3 k=(decide (5≤k) && decide (k≤9)):=rfl
 rw [e] at h
 simpa using h
theorem Zbw {t:Tr} (h:(t.kids.length:Int)=1):∃ k,t.kids = [k]:=by
 cases hk:t.kids with
 | nil=>rw [hk] at h;simp at h
 | cons a r =>
  cases r with
  | nil=>exact ⟨a,rfl⟩
  | cons b r=>rw [hk] at h;simp at h;omega
theorem Qi0 {t:Tr} (h:Qaz t=true) (hk:5≤t.kind∧t.kind≤9):(t.kind=8∧∃ k,t.kids = [k]∧(5≤k.kind∧k.kind≤9)∧Qaz k=true)∨(t.kind≠8∧t.kids = []∧(t.kind≠9→t.text=⟨#[]⟩)):=by
 obtain ⟨h1,h2,h3⟩:=Qgp h
 rcases (show t.kind=5∨t.kind=6∨t.kind=7∨t.kind=8∨t.kind=9 from by omega) with e | e | e | e | e
 ·rw [e] at h1 h2
  refine .inr ⟨by omega,?_,fun _=>?_⟩
  ·have:=Qk9 (by decide) (show 0≤Qa7 t.kids.length 0 1 from h1)
   exact List.eq_nil_of_length_eq_zero (by omega)
  ·have e2:Qa6 (Qae 5) t.text=is t.text []:=rfl
   rw [e2] at h2
   have h4:=eq_of_beq (show (t.text.data.toList==([]:List UInt8))=true from h2)
   cases hx:t.text with
   | mk d=>rw [hx] at h4;cases d;simp at h4;subst h4;rfl
 ·rw [e] at h1 h2
  refine .inr ⟨by omega,?_,fun _=>?_⟩
  ·have:=Qk9 (by decide) (show 0≤Qa7 t.kids.length 0 1 from h1)
   exact List.eq_nil_of_length_eq_zero (by omega)
  ·have e2:Qa6 (Qae 6) t.text=is t.text []:=rfl
   rw [e2] at h2
   have h4:=eq_of_beq (show (t.text.data.toList==([]:List UInt8))=true from h2)
   cases hx:t.text with
   | mk d=>rw [hx] at h4;cases d;simp at h4;subst h4;rfl
 ·rw [e] at h1 h2
  refine .inr ⟨by omega,?_,fun _=>?_⟩
  ·have:=Qk9 (by decide) (show 0≤Qa7 t.kids.length 0 1 from h1)
   exact List.eq_nil_of_length_eq_zero (by omega)
  ·have e2:Qa6 (Qae 7) t.text=is t.text []:=rfl
   rw [e2] at h2
   have h4:=eq_of_beq (show (t.text.data.toList==([]:List UInt8))=true from h2)
   cases hx:t.text with
   | mk d=>rw [hx] at h4;cases d;simp at h4;subst h4;rfl
 ·rw [e] at h1
  obtain ⟨k,hk'⟩:=Zbw (Qk9 (by decide) (show 0≤Qa7 t.kids.length 1 2 from h1))
  obtain ⟨q1,q2⟩:=h3 0 k (by rw [hk'];rfl)
  rw [e] at q1
  exact .inl ⟨e,k,hk',Qry q1,q2⟩
 ·rw [e] at h1
  refine .inr ⟨by omega,?_,fun h=>absurd e h⟩
  have:=Qk9 (by decide) (show 0≤Qa7 t.kids.length 0 1 from h1)
  exact List.eq_nil_of_length_eq_zero (by omega)
theorem Qna {t:Tr} (h:Qaz t=true) (h3:t.kind=3):∃ k,t.kids = [k]∧(5≤k.kind∧k.kind≤9)∧Qaz k=true:=by
 obtain ⟨h1,_,h4⟩:=Qgp h
 rw [h3] at h1
 obtain ⟨k,hk'⟩:=Zbw (Qk9 (by decide) (show 0≤Qa7 t.kids.length 1 3 from h1))
 obtain ⟨q1,q2⟩:=h4 0 k (by rw [hk'];rfl)
 rw [h3] at q1
 exact ⟨k,hk',Qry q1,q2⟩
theorem Qxz {t:Tr} (h:Qaz t=true) (h2:t.kind=2):2≤t.kids.length:=by
 obtain ⟨h1,_,_⟩:=Qgp h
 rw [h2] at h1
 have e:Qar 2 t.kids.length=if (2:Int)≤t.kids.length then 6+max 0 ((t.kids.length:Int)-3) else -1:=rfl
 rw [e] at h1
 split at h1 <;> omega
theorem Qhl (N:Nat):∀ t:Tr,SizeOf.sizeOf t≤N→Qaz t=true→5≤t.kind∧t.kind≤9→((Qb2 t).kind=5∨(Qb2 t).kind=6∨(Qb2 t).kind=7∨(Qb2 t).kind=9)∧(Qb2 t).kids = []∧((Qb2 t).kind≠9→(Qb2 t).text=⟨#[]⟩)∧Qaz (Qb2 t)=true:=by
 induction N with
 | zero=>intro t h;have:=Qgu t;omega
 | succ N ih =>
  intro t hN h hk
  rcases Qi0 h hk with ⟨h8,k,hkk,h1,h2⟩|⟨h8,h1,h2⟩
  ·rw [(Qin h8 hkk).1]
   exact ih k (by have:=Qas (t:=t) (j:=0) (k:=k) (by rw [hkk];rfl);omega) h2 h1
  ·rw [(Qio h8).1]
   exact ⟨by omega,h1,h2,h⟩
def Qnb (ps:List Tr) (m d:Nat):Tr:=(((ps[m]?).getD Qiw).kids[d]?).getD Qiw
def Qla (ps:List Tr) (m d:Nat):Tr:=((Qnb ps m d).kids[0]?).getD Qiw
def goL (ps:List Tr):Nat→Int × Int × Bool→List (Int × Int)→Nat→Option (Int × Nat × Int)
 | 0,_,_,_=>none
 | f+1,r,met,n =>
  if r.2.2=true then
   (if (r.1,r.2.1)∈met then some (19,0,0)
    else if (Qb2 (Qla ps r.1.toNat r.2.1.toNat)).kind=9 then goL ps f (Qby ps r.1.toNat (Qb2 (Qla ps r.1.toNat r.2.1.toNat)).text) (met ++ [(r.1,r.2.1)]) (n+Qcb (Qla ps r.1.toNat r.2.1.toNat))
    else some (0,n+Qcb (Qla ps r.1.toNat r.2.1.toNat),(Qb2 (Qla ps r.1.toNat r.2.1.toNat)).kind))
  else some (7,0,0)
def Zf2:List Tr→Nat→List (Int × Int)
 | [],_=>[]
 | t :: r,i=>((List.range t.kids.length).map fun d=>((i:Int),((d:Nat):Int))) ++ Zf2 r (i+1)
theorem Qva:(l:List Tr)→(i m d:Nat)→(t:Tr)→l[m]? = some t→d<t.kids.length→(((i+m:Nat):Int),(d:Int))∈Zf2 l i
 | [],_,m,_,_,h,_=>by simp at h
 | a :: r,i,0,d,t,h,hd=>by
  simp at h
  subst h
  rw [Zf2]
  exact List.mem_append_left _ (List.mem_map.2 ⟨d,List.mem_range.2 hd,rfl⟩)
 | a :: r,i,m+1,d,t,h,hd=>by
  rw [Zf2]
  have:=Qva r (i+1) m d t (by simpa using h) hd
  rw [show i+1+m=i+(m+1) from by omega] at this
  exact List.mem_append_right _ this
theorem Qvb:(l:List Tr)→(i:Nat)→(Zf2 l i).length≤Qam l
 | [],_=>by rw [Zf2,Qam];exact xA _
 | t :: r,i=>by
  rw [Zf2,xB,List.length_map,List.length_range,Qam,Qa3 t]
  have h1:=Qvb r (i+1)
  have h2:=Qa0 t.kids
  omega
theorem Qrz {α:Type} [DecidableEq α]:(l a:List α)→l.Nodup→(∀ x∈l,x∈a)→l.length≤a.length
 | [],_,_,_=>xZ _
 | x :: l,a,hn,hs=>by
  obtain ⟨h1,h2⟩:=List.nodup_cons.1 hn
  have hx:x∈a:=hs x (by simp)
  have ih:=Qrz l (a.erase x) h2 fun y hy=>(List.mem_erase_of_ne (fun e=>by subst e;exact h1 hy)).2 (hs y (by simp [hy]))
  rw [List.length_erase_of_mem hx] at ih
  have:=List.length_pos_of_mem hx
  rw [xD]
  omega
theorem Qop {α:Type} {l:List α} {x:α} (h:l.Nodup) (hx:x ∉ l):(l ++ [x]).Nodup:=by
 rw [List.nodup_append]
 refine ⟨h,by simp,fun a ha b hb e=>?_⟩
 simp at hb
 subst hb e
 exact hx ha
def InD (ps:List Tr) (a:Int × Int):Prop:=∃ (m d:Nat) (t k:Tr),a=((m:Int),(d:Int))∧ps[m]? = some t∧t.kids[d]? = some k
theorem InD.mem {ps:List Tr} {a:Int × Int} (h:InD ps a):a∈Zf2 ps 0:=by
 obtain ⟨m,d,t,k,rfl,h1,h2⟩:=h
 have:=Qva ps 0 m d t h1 (xP.1 h2).1
 rwa [Nat.zero_add] at this
theorem Zbx {ps:List Tr} {met:List (Int × Int)} (hn:met.Nodup) (hm:∀ a∈met,InD ps a):met.length≤Qam ps:=xQ (Qrz met (Zf2 ps 0) hn fun a ha=>(hm a ha).mem) (Qvb ps 0)
theorem Qoq:(l:List Tr)→(x:ByteArray)→Qp2 l x<l.length→∃ t,l[Qp2 l x]? = some t∧t.text=x
 | [],x,h=>by simp at h
 | a :: r,x,h=>by
  by_cases hx:a.text=x
  ·rw [Qp2,xO hx]
   exact ⟨a,rfl,hx⟩
  ·rw [Qp2,xN hx] at h ⊢
   obtain ⟨t,h1,h2⟩:=Qoq r x (by simpa using h)
   exact ⟨t,by simpa using h1,h2⟩
theorem Qlu {ps:List Tr} {i:Nat} {x:ByteArray} (h:(Qfh ps i x).2.2=true):∃ (t k:Tr) (d:Nat),ps[i]? = some t∧t.kids[d]? = some k∧k.text=x∧Qfh ps i x=((i:Int),(d:Int),true):=by
 unfold Qfh at h ⊢
 split at h
 ·rename_i hk
  cases ht:ps[i]? with
  | none=>rw [ht] at hk;exact absurd hk (by simp [Qiw,Tr.kids])
  | some t =>
   rw [ht,Option.getD_some] at hk
   obtain ⟨k,h1,h2⟩:=Qoq t.kids x hk
   refine ⟨t,k,_,rfl,h1,h2,?_⟩
   rw [Option.getD_some,xO hk]
 ·cases h
theorem Qvc {ps:List Tr} {i:Nat} {s:ByteArray} (h:(Qby ps i s).2.2=true):∃ (m d:Nat) (t k:Tr),ps[m]? = some t∧t.kids[d]? = some k∧k.text=(Qj1 s).2.1∧Qby ps i s=((m:Int),(d:Int),true):=by
 unfold Qby at h ⊢
 cases hd:(Qj1 s).2.2 with
 | true =>
  rw [hd,xO rfl] at h
  rw [xO rfl]
  split at h
  ·rename_i hk
   obtain ⟨t,k,d,h1,h2,h3,h4⟩:=Qlu h
   rw [xO hk]
   exact ⟨_,d,t,k,h1,h2,h3,h4⟩
  ·cases h
 | false =>
  rw [hd,xN (by decide)] at h
  rw [xN (by decide)]
  obtain ⟨t,k,d,h1,h2,h3,h4⟩:=Qlu h
  exact ⟨i,d,t,k,h1,h2,h3,h4⟩
theorem Qt6 {ps:List Tr} {i:Nat} {s:ByteArray} (h:(Qby ps i s).2.2=true):InD ps ((Qby ps i s).1,(Qby ps i s).2.1):=by
 obtain ⟨m,d,t,k,h1,h2,_,h4⟩:=Qvc h
 rw [h4]
 exact ⟨m,d,t,k,rfl,h1,h2⟩
theorem Zby {ps:List Tr} {i:Nat} {s:ByteArray} (h:(Qby ps i s).2.2=false):Qby ps i s=(0,0,false):=by
 unfold Qby Qfh at h ⊢
 split
 ·rename_i h1
  rw [xO h1] at h
  split
  ·rename_i h2
   rw [xO h2] at h
   split
   ·rename_i h3;rw [xO h3] at h;cases h
   ·rfl
  ·rfl
 ·rename_i h1
  rw [xN h1] at h
  split
  ·rename_i h3;rw [xO h3] at h;cases h
  ·rfl
theorem Qr0 (ps:List Tr):(f:Nat)→(r:Int × Int × Bool)→(met:List (Int × Int))→(n:Nat)→met.Nodup→(∀ a∈met,InD ps a)→(r.2.2=true→InD ps (r.1,r.2.1))→Qam ps+1≤f+met.length→∃ R,goL ps f r met n=some R
 | 0,r,met,n,hn,hm,_,hf=>by
  have:=Zbx hn hm
  omega
 | f+1,r,met,n,hn,hm,hr,hf=>by
  rw [goL]
  split
  ·rename_i h
   split
   ·exact ⟨_,rfl⟩
   ·rename_i hx
    split
    ·refine Qr0 ps f _ _ _ (Qop hn hx) (fun a ha=>?_) (fun h'=>Qt6 h') (by rw [xB,List.length_singleton];omega)
     rcases List.mem_append.1 ha with ha | ha
     ·exact hm a ha
     ·simp at ha
      subst ha
      exact hr h
    ·exact ⟨_,rfl⟩
  ·exact ⟨_,rfl⟩
def Zbz (ps:List Tr) (m:Nat) (t:Tr):Int × Nat × Int :=
 if (Qb2 t).kind=9 then (goL ps (Qam ps+1) (Qby ps m (Qb2 t).text) [] (Qcb t)).getD (0,0,0) else (0,Qcb t,(Qb2 t).kind)
theorem Qt7 {ps:List Tr} {m:Nat} {t:Tr} (h:(Qb2 t).kind=9):goL ps (Qam ps+1) (Qby ps m (Qb2 t).text) [] (Qcb t)=some (Zbz ps m t):=by
 obtain ⟨R,hR⟩:=Qr0 ps (Qam ps+1) (Qby ps m (Qb2 t).text) [] (Qcb t) List.nodup_nil (by simp) (fun h=>Qt6 h) (by simp)
 unfold Zbz
 rw [xO h,hR]
 rfl
def Qcm (ps:List Tr) (m:Int) (t:Tr):Int × Nat × Int :=
 if Qc1 ps=false∨m<0∨(ps.length:Int)≤m∨¬ (5≤t.kind∧t.kind≤9)∨Qal t=false then (5,0,0) else Zbz ps m.toNat t
theorem Qnc (S:Nat→Prop) (A:Option Addr) (c:Nat) (ps:List Tr) (w:World) (hp:TrAt S w (Qbp ps) ⟨0,⟨#[]⟩,none,0,0,A,ps.length,c⟩) (hf:Qbg (Qbp ps)=true) (hw:Qbh (Qbp ps)=true) :
  Calls Tryz.prog 52 #[.slice A ps.length c] w fun e w'=>e = .returned (.bool (Qc1 ps))∧Below w.heap.size w w':=by
 have HP:=hQ hp
 have HF:=hQ (Qb8 hf).2.2
 have HWD:=hQ (Qb3 hw).2.2
 have hl:ps.length≤140737488355328:=(Qb8 hf).2.1
 clear hp hf hw
 go_enter Tryz.func52,Tryz.ntmps52
 go_wp2
 go_loopw [7] (fun i wr=>∃ k:Nat,i = .int .i64 k∧k≤ps.length∧Hid (Qoo ps k)∧Below w.heap.size w wr) (fun i _=>ps.length-(intOf i).toNat)
 case atStart=>exact ⟨0,rfl,xZ _,hQ fun j t hj=>absurd hj (by omega),xC _ _⟩
 case round =>
  obtain ⟨k,rfl,hk,hn,hb⟩:=hrel
  have HN:=hn
  have HBR:=hQ hb
  clear hn hb
  by_cases hlt:k<ps.length
  ·obtain ⟨t,ht⟩:∃ t,ps[k]? = some t:=⟨_,xF hlt⟩
   obtain ⟨b,off,hka⟩:∃ b off,A=some ⟨b,off,none⟩:=HP.out.addr.resolve_left (by show ¬ ps.length=0;omega)
   subst hka
   obtain ⟨u,c0,c1,c2,c3,hu⟩:=(HP.out.keep HBR.out).at rfl (show (Qbp ps).kids[k]? = some t from ht)
   have HU:=hQ hu
   have HTX:=hQ hu.kl.2.2.1
   have HK:=hQ ht
   have cl:=xK wr _ c0
   have hk0:(0:Int)≤(k:Int):=by omega
   have hk1:(k:Int)<(ps.length:Int):=by omega
   have hk2:(k:Int)+1≤1900000000000001:=by omega
   have HA:=hQ ((xC wr.heap.size wr).alloc (xA _) (trO u))
   have HC:=hQ (Qk4 _ S t u (wr.alloc (trO u)) (xA _) (HU.out.keep HA.out) (HF.out k t HK.out) (HWD.out k t HK.out))
   clear hu ht
   obtain ⟨vk,vx,vla,vll,vlc,vka,vkl,vkc⟩:=u
   by_cases hx:vk=1
   ·subst hx
    have HX:=hQ (show t.kind=1 from HTX.out.symm)
    by_cases hs:Qal t=true
    ·have HS:=hQ hs
     rw [hs] at HC
     clear hs
     go_wp2_with (go_at_call 91;refine HC.out.mono ?_;rintro e w1 ⟨rfl,hb⟩;have HB1:=hQ (HA.out.trans (hb.mono HA.out.size));clear hb)
     go_roundw
     case measure=>first | (simp [intOf];done) | (simp [intOf];omega)
     case rel=>exact ⟨k+1,by go_num,by omega,hQ (Qm5 HN.out HK.out HX.out HS.out),HBR.out.trans (HB1.out.mono HBR.out.size)⟩
    ·have hs':Qal t=false:=by simpa using hs
     have HV:=hQ (Qiz HK.out (fun h=>hs h.2))
     rw [hs'] at HC
     clear hs hs'
     go_wp2_with (go_at_call 91;refine HC.out.mono ?_;rintro e w1 ⟨rfl,hb⟩;have HB1:=hQ (HA.out.trans (hb.mono HA.out.size));clear hb)
     refine bodyPost_ret (v:=.bool false) (by simp [results,Tryz.results52,go_sem, *]) rfl ?_
     rw [HV.out]
     exact ⟨rfl,HBR.out.trans (HB1.out.mono HBR.out.size)⟩
   ·have q1:=Qck hx
    have HV:=hQ (Qiz HK.out (fun h=>hx (HTX.out.trans h.1)))
    go_wp2
    refine bodyPost_ret (v:=.bool false) (by simp [results,Tryz.results52,go_sem, *]) rfl ?_
    rw [HV.out]
    exact ⟨rfl,HBR.out.trans (HA.out.mono HBR.out.size)⟩
  ·obtain rfl:k=ps.length:=by omega
   have HV:=hQ (Qp7 HN.out)
   go_wp2
   try rw [Exit.noGoto_ret]
   first | go_ret3 | go_ret
   rw [HV.out]
   exact ⟨rfl,HBR.out⟩
def Qnd (t:Tr):Bool:=decide (5≤t.kind) && decide (t.kind≤9) && Qal t
theorem Qx0 (S:Nat→Prop) (t:Tr) (v:TV) (w:World) (h:TrAt S w t v) (hf:Qbg t=true) (hw:Qbh t=true) :
  Calls Tryz.prog 83 #[.agg #[.int .i64 v.kind,.string v.text,.slice v.la v.ll v.lc,.slice v.ka v.kl v.kc]] w fun e w'=>e = .returned (.bool (Qnd t))∧Below w.heap.size w w':=by
 have HA:=hQ ((xC w.heap.size w).alloc (xA _) (trO v))
 have HX:=xH w (trO v)
 have HC:=hQ (Qk4 _ S t v (w.alloc (trO v)) (xA _) (h.keep HA.out) hf hw)
 have hk:=h.kl.2.2.1
 clear h hf hw
 obtain ⟨vk,vx,vla,vll,vlc,vka,vkl,vkc⟩:=v
 simp only at hk
 have k0:=Qab HX 0 _ rfl
 have k1:=Qab HX 1 _ rfl
 have k2:=Qab HX 2 _ rfl
 have k3:=Qab HX 3 _ rfl
 clear HX
 have HR:=hQ (show Qnd t=(decide (5≤vk) && decide (vk≤9) && Qal t) from by unfold Qnd;rw [hk])
 clear hk
 by_cases h5:5≤vk
 ·have d5:=xS h5
  by_cases h9:vk≤9
  ·have d9:=xS h9
   have HV:=hQ (show Qnd t=Qal t from by rw [HR.out,d5,d9];rfl)
   clear h5 h9
   go_enter Tryz.func83,Tryz.ntmps83
   go_wp2_with (go_at_call 91;refine HC.out.mono ?_;rintro e w1 ⟨rfl,hb⟩;have HB1:=hQ (HA.out.trans (hb.mono HA.out.size));clear hb)
   go_ret
   exact ⟨by rw [HV.out];first | rfl | simp,HB1.out⟩
  ·have d9:=xR h9
   have HV:=hQ (show Qnd t=false from by rw [HR.out,d5,d9];rfl)
   clear h5 h9 HC
   go_enter Tryz.func83,Tryz.ntmps83
   go_wp2
   go_ret
   exact ⟨by rw [HV.out];first | rfl | simp,HA.out⟩
 ·have d5:=xR h5
  have HV:=hQ (show Qnd t=false from by rw [HR.out,d5];rfl)
  clear h5 HC
  go_enter Tryz.func83,Tryz.ntmps83
  go_wp2
  go_ret
  exact ⟨by rw [HV.out];first | rfl | simp,HA.out⟩
theorem Qge:(t:Tr)→Qcb t≤Qah t
 | .mk k x ls ks=>by
  rw [Qcb,Qah]
  split
  ·have:Qrx ks≤Qam ks:=by
    cases ks with
    | nil=>rw [Qrx];exact xZ _
    | cons a r =>
     rw [Qrx,Qam]
     have:=Qge a
     omega
   omega
  ·omega
theorem Qvd (N:Nat):∀ (S:Nat→Prop) (t:Tr) (v:TV) (w:World),SizeOf.sizeOf t≤N→(∀ b,S b→b<w.heap.size)→TrAt S w t v→Qaz t=true→5≤t.kind∧t.kind≤9→Qah t≤2000000 →
  Calls Tryz.prog 84 #[.agg #[.int .i64 v.kind,.string v.text,.slice v.la v.ll v.lc,.slice v.ka v.kl v.kc]] w fun e w'=>∃ u:TV,e = .returned (.tuple #[.agg #[.int .i64 u.kind,.string u.text,.slice u.la u.ll u.lc,.slice u.ka u.kl u.kc],.int .i64 (Qcb t:Nat)])∧TrAt S w' (Qb2 t) u∧Below w.heap.size w w':=by
 induction N with
 | zero=>intro S t v w h;have:=Qgu t;omega
 | succ N ih =>
  intro S t v w hN hS h hs hk hz
  have HS:=hQ hS
  have HTW:=hQ h
  have hb0:=((xC w.heap.size w).alloc (xA _) (trO v)).alloc (by rw [xI];omega) (.cells #[.int .i64 0,.string ⟨#[]⟩,.slice none 0 0,.slice none 0 0] 25)
  have HB0:=hQ hb0
  have HX:=hQ (show ((w.alloc (trO v)).alloc (.cells #[.int .i64 0,.string ⟨#[]⟩,.slice none 0 0,.slice none 0 0] 25)).heap[w.heap.size]? = some (trO v) from (((xC (w.alloc (trO v)).heap.size _).alloc (xA _) _).block w.heap.size (by simp)).trans (xH w _))
  have HRR:=hQ (show ((w.alloc (trO v)).alloc (.cells #[.int .i64 0,.string ⟨#[]⟩,.slice none 0 0,.slice none 0 0] 25)).heap[w.heap.size+1]? = some (trO ⟨0,⟨#[]⟩,none,0,0,none,0,0⟩) from by rw [←xI w (trO v)];exact xH _ _)
  have HT:=hQ (h.keep hb0)
  have e1:=h.kl.2.2.1
  clear hb0
  obtain ⟨vk,vx,vla,vll,vlc,vka,vkl,vkc⟩:=v
  simp only at e1
  have k0:=Qab HX.out 0 _ rfl
  have k1:=Qab HX.out 1 _ rfl
  have k2:=Qab HX.out 2 _ rfl
  have k3:=Qab HX.out 3 _ rfl
  have r0:=Qab HRR.out 0 _ rfl
  have r1:=Qab HRR.out 1 _ rfl
  have r2:=Qab HRR.out 2 _ rfl
  have r3:=Qab HRR.out 3 _ rfl
  have rbl:=Qaa HRR.out
  have rrf:=xL HRR.out
  rcases Qi0 hs hk with ⟨h8,k,hkk,hk1,hk2⟩|⟨h8,_,_⟩
  ·have hv8:vk=8:=e1.trans h8
   subst hv8
   obtain ⟨q1,q2⟩:=Qin h8 hkk
   have HQ1:=hQ q1
   have HQ2:=hQ q2
   have hkj:t.kids[0]? = some k:=by rw [hkk];rfl
   have hkl:vkl=1:=by have:=h.kl.1;rw [hkk] at this;exact this
   subst hkl
   obtain ⟨b,off,hka⟩:∃ b off,vka=some ⟨b,off,none⟩:=h.addr.resolve_left (by rw [hkk];simp)
   subst hka
   obtain ⟨u,c0,c1,c2,c3,hu⟩:=h.at rfl hkj
   simp only [Nat.zero_mul,Nat.add_zero] at c0 c1 c2 c3
   have cl:=xK w _ c0
   have HC:=hQ (ih S k u _ (by have:=Qas hkj;omega) (fun b hb=>xE (hS b hb) HB0.out.size) (hu.keep HB0.out) hk2 hk1 (by have:=Qbb hkj;omega))
   have hlz:Qcb k≤2000000:=by have:=Qge k;have:=Qbb hkj;omega
   have hl1:(Qcb k:Int)+1≤2000001:=by omega
   have hl0:(0:Int)≤(Qcb k:Int):=by omega
   clear ih hN hS h hs hk hz hk1 hk2 hkk hkj hu q1 q2 h8 e1
   go_enter Tryz.func84,Tryz.ntmps84
   go_wp2_with (go_at_call 84;refine HC.out.mono ?_;rintro e w1 ⟨y,rfl,hy,hb⟩;have HY:=hQ hy;have HB1:=hQ hb;have HR1:=hQ ((hb.block _ rbl).trans HRR.out);have g0:=Qab HR1.out 0 _ rfl;have g1:=Qab HR1.out 1 _ rfl;have g2:=Qab HR1.out 2 _ rfl;have g3:=Qab HR1.out 3 _ rfl;have gbl:=Qaa HR1.out;have grf:=xL HR1.out;clear hy hb r0 r1 r2 r3 rbl rrf k0 k1 k2 k3 c0 c1 c2 c3)
   refine bodyPost_ret (v:=.tuple #[.agg #[.int .i64 y.kind,.string y.text,.slice y.la y.ll y.lc,.slice y.ka y.kl y.kc],.int .i64 ((Qcb k:Int)+1)]) (by simp [results,Tryz.results84,go_sem, *]) rfl ?_
   have hb2:Below w1.heap.size (Qfk w1 (w.heap.size+1) y) ((Qfk w1 (w.heap.size+1) y).alloc (trO y)):=(xC _ _).alloc (by rw [Qcx];exact xA _) _
   refine ⟨y,by rw [HQ2.out];rfl,?_,?_⟩
   ·rw [HQ1.out]
    refine TrAt.move (w:=w1) (fun _ h=>h) (fun b hb hl=>?_) _ _ HY.out
    exact (hb2.block b hl).trans (Qbm y (by have:=HS.out b hb;omega))
   ·exact HB0.out.trans ((HB1.out.mono HB0.out.size).trans (((Qd4 w1 (w.heap.size+1) y).mono (Nat.le_succ _)).trans (hb2.mono (xQ HB0.out.size HB1.out.size))))
  ·have hv8:vk≠8:=fun e=>h8 (e1.symm.trans e)
   have b8:=Qck hv8
   obtain ⟨q1,q2⟩:=Qio h8
   have HQ1:=hQ q1
   have HQ2:=hQ q2
   clear ih hN hS h hs hk hz q1 q2 h8 e1 hv8
   go_enter Tryz.func84,Tryz.ntmps84
   go_wp2
   refine bodyPost_ret (v:=.tuple #[.agg #[.int .i64 vk,.string vx,.slice vla vll vlc,.slice vka vkl vkc],.int .i64 0]) (by simp [results,Tryz.results84,go_sem, *]) rfl ?_
   have hb2:Below w.heap.size w ((w.alloc (trO ⟨vk,vx,vla,vll,vlc,vka,vkl,vkc⟩)).alloc (trO ⟨vk,vx,vla,vll,vlc,vka,vkl,vkc⟩)):=((xC w.heap.size w).alloc (xA _) _).alloc (by rw [xI];omega) _
   exact ⟨⟨vk,vx,vla,vll,vlc,vka,vkl,vkc⟩,by rw [HQ2.out];rfl,by rw [HQ1.out];exact HTW.out.keep hb2,hb2⟩
theorem Qve (N:Nat):∀ (S:Nat→Prop) (t:Tr) (v:TV) (w:World),SizeOf.sizeOf t≤N→(∀ b,S b→b<w.heap.size)→TrAt S w t v→Qaz t=true→5≤t.kind∧t.kind≤9→Qah t≤1000 →
  Calls Tryz.prog 84 #[.agg #[.int .i64 v.kind,.string v.text,.slice v.la v.ll v.lc,.slice v.ka v.kl v.kc]] w fun e w'=>∃ u:TV,e = .returned (.tuple #[.agg #[.int .i64 u.kind,.string u.text,.slice u.la u.ll u.lc,.slice u.ka u.kl u.kc],.int .i64 (Qcb t:Nat)])∧TrAt S w' (Qb2 t) u∧Below w.heap.size w w':=fun S t v w h1 h2 h3 h4 h5 h6=>Qvd N S t v w h1 h2 h3 h4 h5 (by omega)
end Go.Proofs.YtclkilljmdkfaaaGreat
namespace Go.Proofs.YtclkilljmdkfaaaGreat
open Go.RowKit Go.Shelf
def Qh4 (d:Tr):Tr:=.mk d.kind d.text [] (if d.kind=3 then [Qb2 ((d.kids[0]?).getD Qiw)] else [Qbu 5,Qbu 15])
def Qqp (t:Tr):Tr:=.mk t.kind t.text [] (t.kids.map Qh4)
def Qh5 (ps:List Tr):List Tr:=ps.map Qqp
theorem Qqa {ps:List Tr} {m:Nat}:(Qh5 ps)[m]? = (ps[m]?).map Qqp:=List.getElem?_map
theorem Qet (w:World) (a b:Obj):((w.alloc a).alloc b).heap[w.heap.size]? = some a∧((w.alloc a).alloc b).heap[w.heap.size+1]? = some b :=
 ⟨(((xC (w.alloc a).heap.size _).alloc (xA _) _).block w.heap.size (by simp)).trans (xH w _),by rw [←xI w a];exact xH _ _⟩
theorem Qfx (w:World) (a b:Obj):Below w.heap.size w ((w.alloc a).alloc b):=((xC w.heap.size w).alloc (xA _) _).alloc (by rw [xI];omega) _
theorem Qgf {ps:List Tr} {j:Nat} {t:Tr} (h:Qc1 ps=true) (ht:ps[j]? = some t):t.kind=1∧Qal t=true:=by
 unfold Qc1 at h
 rw [List.all_eq_true] at h
 have:=h t (yA ht)
 simp at this
 exact this
def OT (w:World) (B0 lo:Nat) (l:Value) (ts:List Tr):Prop:=∃ vs:List TV,vs.length=ts.length∧w.ownsRow lo 25 4 l ts.length (Qag vs) ∧
 ∀ (i:Nat) (k:Tr) (u:TV),ts[i]? = some k→vs[i]? = some u→TrAt (fun b=>(b<B0∨lo≤b)∧b<w.heap.size∧l.ownBlock≠some b) w k u
theorem OT.nil (w:World) (B0 lo:Nat):OT w B0 lo (.slice none 0 0) []:=⟨[],rfl,World.ownsRow_nil _ _ _ _,fun i k u h=>by simp at h⟩
theorem OT.empty {w:World} {B0 lo:Nat} {l:Value} (h:w.ownsRow lo 25 4 l 0 []):OT w B0 lo l []:=⟨[],rfl,h,fun i k u h=>by simp at h⟩
theorem OT.keep {w w':World} {B0 lo:Nat} {l:Value} {ts:List Tr} (h:OT w B0 lo l ts) (hs:w.heap.size≤w'.heap.size) (hb:∀ b,b<w.heap.size→(b<B0∨lo≤b)→w'.heap[b]? = w.heap[b]?):OT w' B0 lo l ts:=by
 obtain ⟨vs,h1,h2,h3⟩:=h
 refine ⟨vs,h1,⟨h2.1,h2.2.imp id fun ⟨g,cap,cur,hv,hB,hh,r⟩=>⟨g,cap,cur,hv,hB,(hb g (Qaa hh) (.inr hB)).trans hh,r⟩⟩,fun i k u hk hu=>?_⟩
 exact TrAt.move (fun b hb'=>⟨hb'.1,xE hb'.2.1 hs,hb'.2.2⟩) (fun b hb' hl=>hb b hl hb'.1) _ _ (h3 i k u hk hu)
theorem OT.below {w w':World} {B0 lo:Nat} {l:Value} {ts:List Tr} (h:OT w B0 lo l ts) (hb:Below w.heap.size w w'):OT w' B0 lo l ts:=h.keep hb.size fun b hl _=>hb.block b hl
theorem OT.slice {w:World} {B0 lo:Nat} {l:Value} {ts:List Tr} (h:OT w B0 lo l ts):∃ A c,l = .slice A ts.length c:=by
 obtain ⟨vs,_,h2,_⟩:=h
 exact Qhe h2
theorem OT.lt {w:World} {B0 lo:Nat} {l:Value} {ts:List Tr} (h:OT w B0 lo l ts):∀ b,l.ownBlock=some b→lo≤b∧b<w.heap.size:=by
 obtain ⟨vs,_,h2,_⟩:=h
 exact h2.lt
theorem OT.snoc {w w':World} {B0 lo g cap:Nat} {l:Value} {ts:List Tr} {vs:List TV} {k:Tr} {y:TV} (h1:vs.length=ts.length) (_hrow:w.ownsRow lo 25 4 l ts.length (Qag vs))
  (h3:∀ (i:Nat) (k:Tr) (u:TV),ts[i]? = some k→vs[i]? = some u→TrAt (fun b=>(b<B0∨lo≤b)∧b<w.heap.size∧l.ownBlock≠some b) w k u)
  (hy:TrAt (fun b=>(b<B0∨lo≤b)∧b<w.heap.size∧l.ownBlock≠some b) w k y)
  (ho:w'.ownsRow lo 25 4 (.slice (some ⟨g,0,none⟩) (ts.length+1) cap) (ts.length+1) (Qag vs ++ y.cells)) (hk:Keeps (pre l (ts.length*4)) w w') (hg:l.ownBlock=some g∨w.heap.size≤g) :
  OT w' B0 lo (.slice (some ⟨g,0,none⟩) (ts.length+1) cap) (ts ++ [k]):=by
 have hkeep:∀ (a:Tr) (u:TV),TrAt (fun b=>(b<B0∨lo≤b)∧b<w.heap.size∧l.ownBlock≠some b) w a u→TrAt (fun b=>(b<B0∨lo≤b)∧b<w'.heap.size∧(Value.slice (some ⟨g,0,none⟩) (ts.length+1) cap).ownBlock≠some b) w' a u:=fun a u ha =>
  TrAt.move (fun b hb=>⟨hb.1,xE hb.2.1 hk.size,fun e=>by
   have e':g=b:=by simpa [Value.ownBlock] using e
   subst e'
   rcases hg with h | h
   ·exact hb.2.2 h
   ·have:=hb.2.1;omega⟩) (fun b hb hl=>hk.block b hl (Qc2 hb.2.2)) _ _ ha
 refine ⟨vs ++ [y],by simp [h1],?_,fun i a u ha hu=>?_⟩
 ·have e:Qag (vs ++ [y])=Qag vs ++ y.cells:=by unfold Qag;simp
  rw [e,xB,List.length_singleton]
  exact ho
 ·by_cases hi:i<ts.length
  ·rw [yB hi] at ha
   rw [yB (by rw [h1];exact hi)] at hu
   exact hkeep a u (h3 i a u ha hu)
  ·have hl:=(xP.1 ha).1
   rw [xB,List.length_singleton] at hl
   obtain rfl:i=ts.length:=by omega
   rw [xX (xA _),Nat.sub_self] at ha
   rw [←h1,xX (xA _),Nat.sub_self] at hu
   injection ha with ha
   injection hu with hu
   subst ha hu
   exact hkeep _ _ hy
theorem Qt8 {S:Nat→Prop} {g:Nat} {w:World} {ks:List Tr} {us:List TV} (k:Int) (x:ByteArray) (hl:us.length=ks.length) (h:∀ (i:Nat) (a:Tr) (u:TV),ks[i]? = some a→us[i]? = some u→TrAt S w a u)
  (hg:w.heap[g]? = some (.cells (Qag us).toArray 25 (0,0))) (hS:S g) (n:Nat) (hn:n=us.length):TrAt S w (.mk k x [] ks) ⟨k,x,none,0,0,some ⟨g,0,none⟩,n,n⟩:=by
 subst hn
 unfold TrAt
 refine ⟨rfl,rfl,rfl,hl,fun hne=>absurd rfl hne,fun _=>⟨g,0,rfl,hS,TrsAt.of ks 0 fun i t ht=>?_⟩,xA _,xA _⟩
 have hi:=(xP.1 ht).1
 obtain ⟨u,hu⟩:∃ u,us[i]? = some u:=⟨_,xF (by rw [hl];exact hi)⟩
 obtain ⟨q0,q1,q2,q3⟩:=Qef us i u hu
 have hc:∀ (j:Nat) (x:Value),(Qag us)[j]? = some x→w.cell? ⟨g,j,none⟩=some x:=fun j x hx=>Qab hg j x (by simpa using hx)
 rw [Nat.zero_add]
 exact ⟨u,hc _ _ q0,hc _ _ q1,hc _ _ q2,hc _ _ q3,h i t u ht hu⟩
theorem OT.node {w:World} {B0 lo c:Nat} {A:Option Addr} {ts:List Tr} {S:Nat→Prop} (h:OT w B0 lo (.slice A ts.length c) ts) (k:Int) (x:ByteArray) (hS:∀ b,b<B0∨lo≤b→b<w.heap.size→S b):TrAt S w (.mk k x [] ts) ⟨k,x,none,0,0,A,ts.length,c⟩:=by
 obtain ⟨vs,h1,h2,h3⟩:=h
 unfold TrAt
 refine ⟨rfl,rfl,rfl,rfl,fun hne=>absurd rfl hne,fun hne=>?_,xA _,Qg3 h2⟩
 obtain ⟨g,cap,hv,hg1,hg2⟩:=World.ownsRow.form h2 (List.length_pos_iff.2 hne)
 injection hv with hv1 hv2 hv3
 subst hv1 hv3
 have hcs:=h2.cells (g:=g) rfl
 have hc:∀ (j:Nat) (x:Value),(Qag vs)[j]? = some x→w.cell? ⟨g,j,none⟩=some x:=fun j x hx=>by
  have h:=hcs j x hx
  rw [Addr.add_lit] at h
  simp only [Nat.zero_add] at h
  exact h
 refine ⟨g,0,rfl,hS g (.inr hg1) hg2,TrsAt.of ts 0 fun i t ht=>?_⟩
 obtain ⟨u,hu⟩:∃ u,vs[i]? = some u:=⟨_,xF (by rw [h1];exact (xP.1 ht).1)⟩
 obtain ⟨q0,q1,q2,q3⟩:=Qef vs i u hu
 rw [Nat.zero_add]
 exact ⟨u,hc _ _ q0,hc _ _ q1,hc _ _ q2,hc _ _ q3,TrAt.move (fun b hb=>hS b hb.1 hb.2.1) (fun _ _ _=>rfl) _ _ (h3 i t u ht hu)⟩
theorem Qvi {α β:Type} (f:α→β) (l:List α) (j:Nat) (x:α) (h:l[j]? = some x):(l.take (j+1)).map f=(l.take j).map f ++ [f x]:=by
 rw [List.take_add_one,h,Option.toList_some,List.map_append]
 rfl
end Go.Proofs.YtclkilljmdkfaaaGreat
