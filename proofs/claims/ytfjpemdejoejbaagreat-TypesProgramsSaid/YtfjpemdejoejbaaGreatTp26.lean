/- Part 26 -/
import Derived.Test.YtfjpemdejoejbaaGreatTp23
import Derived.Test.YtfjpemdejoejbaaGreatTp24
import Derived.Test.YtfjpemdejoejbaaGreatTp25
import Derived.Test.YtfjpemdejoejbaaGreatTp21
set_option maxRecDepth 100000
set_option maxHeartbeats 4000000
namespace Go.Proofs.YtfjpemdejoejbaaGreat
open Go.Proofs.Tryz Go.RowKit
theorem Qmc(k:Int)(n:Nat):∀ (ks:List Tr) (i:Nat),Qbo k n i ks=true->∀ a∈ks,Qa2 a=true
 | [],_,_,a,h=>by simp at h
 | b :: r,i,h,a,ha=>by
  rw[Qbo,Bool.and_eq_true,Bool.and_eq_true]at h
  rcases List.mem_cons.1 ha with rfl | ha
  ·exact h.1.2
  ·exact Qmc k n r (i+1) h.2 a ha
theorem Qnr{t:Tr}(hz:Qai t<=1000)(h:Qam t=true):0<=Qat t.kind t.kids.length/\∀ a∈t.kids,Qam a=true:=by
 rw[<-Qce _ t (xA _) hz,Qd8,Bool.and_eq_true,Bool.and_eq_true]at h;refine⟨by have h1:=h.1.1;rw[Bool.not_eq_true']at h1;have h2:=of_decide_eq_false h1;omega,fun a ha=>?_⟩;have h1:=Qmc _ _ _ _ h.2 a ha;rw[<-Qce _ a (xA _) (by have h2:=Qvw ha;have h3:=Qa5 t;omega)];exact h1
theorem Zg2{α:Type}(l:List α)(h:2<=l.length):∃ qs a b,l=qs ++ [a,b]:=by
 have hd:(l.drop (l.length-2)).length=2:=by rw[List.length_drop];omega
 match hm:l.drop (l.length-2),hd with
 | [a,b],_=>exact⟨l.take (l.length-2),a,b,by rw[<-hm,List.take_append_drop]⟩
theorem Qeb{n:Nat}{must m:Int}(h:0<=Qbc n must m):(n:Int)=must:=by
 unfold Qbc at h
 by_cases e:(n:Int)=must
 ·exact e
 ·rw[xN e]at h;omega
theorem Zch{α:Type}(l:List α)(h:l.length=2):∃ a b,l = [a,b]:=by
 match l,h with
 | [a,b],_=>exact⟨a,b,rfl⟩
theorem Zci{α:Type}(l:List α)(h:l.length=3):∃ a b c,l = [a,b,c]:=by
 match l,h with
 | [a,b,c],_=>exact⟨a,b,c,rfl⟩
theorem Qns:∀ N:Nat,PcC N
 | 0=>fun B l ps t v w h=>by have:=Qf3 t;omega
 | N+1=>by
  have ih:=Qns N;intro B l ps t v w hN ht hs hz hl hB hb;obtain⟨h1,h2⟩:=Qnr hz hs;have hkl:=ht.kl;obtain⟨k,x,ls,ks⟩:=t;obtain⟨vk,vx,vla,vll,vlc,vka,vkl,vkc⟩:=v;simp only[Tr.kind,Tr.text,Tr.leads,Tr.kids]at hkl h1 h2;obtain⟨rfl,rfl,rfl,rfl⟩:=hkl
  by_cases h0:vk<=0\/23<=vk
  ·have hm:Qat vk ks.length = -1:=by unfold Qat;simp only[show vk≠1 from by omega,show vk≠2 from by omega,show vk≠3 from by omega,show vk≠4 from by omega,show vk≠5 from by omega,show vk≠6 from by omega,show vk≠7 from by omega,show vk≠8 from by omega,show vk≠9 from by omega,show vk≠10 from by omega,show vk≠11 from by omega,show vk≠12 from by omega,show vk≠13 from by omega,show vk≠14 from by omega,show vk≠15 from by omega,show vk≠16 from by omega,show vk≠17 from by omega,show vk≠18 from by omega,show vk≠19 from by omega,show vk≠20 from by omega,show vk≠21 from by omega,show vk≠22 from by omega,if_false]
   omega
  ·rcases Qix h0 with rfl | rfl | rfl | rfl | rfl | rfl | rfl | rfl | rfl | rfl | rfl | rfl | rfl | rfl | rfl | rfl | rfl | rfl | rfl | rfl | rfl | rfl
   ·exact Zb8 ih B l ps vx ls ks vla vka vlc vkc w hN ht (fun j k hk=>h2 k (yA hk)) hz hl hB hb
   ·have hn:2<=ks.length:=by
     rcases Nat.lt_or_ge ks.length 2 with h' | h'
     ·have hm:Qat 2 ks.length = -1:=by show(if 2<=(ks.length:Int) then 6+max 0 ((ks.length:Int)-3) else -1)=_;rw[xN (by omega)]
      omega
     ·exact h'
    obtain⟨qs,a,b,rfl⟩:=Zg2 ks hn;have hlen:(qs ++ [a,b]).length=qs.length+2:=by simp
    rw[hlen]at ht |-;exact Zb9 ih B l ps vx ls qs a b vla vka vlc vkc w hN ht (h2 a (by simp)) (h2 b (by simp)) (fun k hk=>h2 k (by simp[hk])) hz hl hB hb
   ·have hn:=Qeb (n:=ks.length) (must:=1) (m:=3) h1;obtain⟨a,rfl⟩:=List.length_eq_one_iff.1 (show ks.length=1 from by omega);exact Zca ih B l ps vx ls a vla vka vlc vkc w hN ht (h2 a (by simp)) hz hl hB hb
   ·have hn:=Qeb (n:=ks.length) (must:=1) (m:=2) h1;obtain⟨a,rfl⟩:=List.length_eq_one_iff.1 (show ks.length=1 from by omega);exact Zcb ih B l ps vx ls a vla vka vlc vkc w hN ht (h2 a (by simp)) hz hl hB hb
   ·obtain rfl:ks = []:=List.eq_nil_of_length_eq_zero (by have hn:=Qeb (n:=ks.length) (must:=0) (m:=1) h1;omega);exact Zcd ih B l ps vx ls vla vka vlc vkc w hN ht hz hl hB hb
   ·obtain rfl:ks = []:=List.eq_nil_of_length_eq_zero (by have hn:=Qeb (n:=ks.length) (must:=0) (m:=1) h1;omega);exact Zce ih B l ps vx ls vla vka vlc vkc w hN ht hz hl hB hb
   ·obtain rfl:ks = []:=List.eq_nil_of_length_eq_zero (by have hn:=Qeb (n:=ks.length) (must:=0) (m:=1) h1;omega);exact Zcf ih B l ps vx ls vla vka vlc vkc w hN ht hz hl hB hb
   ·have hn:=Qeb (n:=ks.length) (must:=1) (m:=2) h1;obtain⟨a,rfl⟩:=List.length_eq_one_iff.1 (show ks.length=1 from by omega);exact Zcc ih B l ps vx ls a vla vka vlc vkc w hN ht (h2 a (by simp)) hz hl hB hb
   ·obtain rfl:ks = []:=List.eq_nil_of_length_eq_zero (by have hn:=Qeb (n:=ks.length) (must:=0) (m:=1) h1;omega);exact Zcg ih B l ps vx ls vla vka vlc vkc w hN ht hz hl hB hb
   ·obtain rfl:ks = []:=List.eq_nil_of_length_eq_zero (by have hn:=Qeb (n:=ks.length) (must:=0) (m:=1) h1;omega);exact Qyh ih B l ps vx ls vla vka vlc vkc w hN ht hz hl hB hb
   ·obtain rfl:ks = []:=List.eq_nil_of_length_eq_zero (by have hn:=Qeb (n:=ks.length) (must:=0) (m:=1) h1;omega);exact Qyi ih B l ps vx ls vla vka vlc vkc w hN ht hz hl hB hb
   ·obtain rfl:ks = []:=List.eq_nil_of_length_eq_zero (by have hn:=Qeb (n:=ks.length) (must:=0) (m:=1) h1;omega);exact Qyj ih B l ps vx ls vla vka vlc vkc w hN ht hz hl hB hb
   ·obtain rfl:ks = []:=List.eq_nil_of_length_eq_zero (by have hn:=Qeb (n:=ks.length) (must:=0) (m:=1) h1;omega);exact Qye ih B l ps vx ls vla vka vlc vkc w hN ht hz hl hB hb
   ·obtain rfl:ks = []:=List.eq_nil_of_length_eq_zero (by have hn:=Qeb (n:=ks.length) (must:=0) (m:=1) h1;omega);exact Qyf ih B l ps vx ls vla vka vlc vkc w hN ht hz hl hB hb
   ·obtain rfl:ks = []:=List.eq_nil_of_length_eq_zero (by have hn:=Qeb (n:=ks.length) (must:=0) (m:=1) h1;omega);exact Qyg ih B l ps vx ls vla vka vlc vkc w hN ht hz hl hB hb
   ·exact Qyc ih B l ps vx ls ks vla vka vlc vkc w hN ht (fun j k hk=>h2 k (yA hk)) hz hl hB hb
   ·have hn:=Qeb (n:=ks.length) (must:=1) (m:=0) h1;obtain⟨a,rfl⟩:=List.length_eq_one_iff.1 (show ks.length=1 from by omega);exact Qyb ih B l ps vx ls a vla vka vlc vkc w hN ht (h2 a (by simp)) hz hl hB hb
   ·exact Qyd ih B l ps vx ls ks vla vka vlc vkc w hN ht (fun j k hk=>h2 k (yA hk)) hz hl hB hb
   ·have hn:=Qeb (n:=ks.length) (must:=3) (m:=3) h1;obtain⟨a,b,c,rfl⟩:=Zci ks (show ks.length=3 from by omega);exact Qyk ih B l ps vx ls a b c vla vka vlc vkc w hN ht (h2 a (by simp)) (h2 b (by simp)) (h2 c (by simp)) hz hl hB hb
   ·have hn:=Qeb (n:=ks.length) (must:=2) (m:=4) h1;obtain⟨a,b,rfl⟩:=Zch ks (show ks.length=2 from by omega);exact Qyl ih B l ps vx ls a b vla vka vlc vkc w hN ht (h2 a (by simp)) (h2 b (by simp)) hz hl hB hb
   ·have hn:=Qeb (n:=ks.length) (must:=2) (m:=1) h1;obtain⟨a,b,rfl⟩:=Zch ks (show ks.length=2 from by omega);exact Qym ih B l ps vx ls a b vla vka vlc vkc w hN ht (h2 a (by simp)) (h2 b (by simp)) hz hl hB hb
   ·have hn:=Qeb (n:=ks.length) (must:=1) (m:=2) h1;obtain⟨a,rfl⟩:=List.length_eq_one_iff.1 (show ks.length=1 from by omega);exact Qya ih B l ps vx ls a vla vka vlc vkc w hN ht (h2 a (by simp)) hz hl hB hb
mutual
def Qbd:Tr->Tr
 | .mk k x ls ks=>if k=8 then Zlz ks else .mk k x ls ks
def Zlz:List Tr->Tr
 | []=>noTr
 | t :: _=>Qbd t
end
mutual
def Qbn:Tr->Nat
 | .mk k _ _ ks=>if k=8 then Qsd ks+1 else 0
def Qsd:List Tr->Nat
 | []=>0
 | t :: _=>Qbn t
end
theorem Qfj{t k:Tr}{r:List Tr}(h8:t.kind=8)(hk:t.kids=k :: r):Qbd t=Qbd k/\Qbn t=Qbn k+1:=by
 cases t with
 | mk kd x ls ks =>
  have e1:kd=8:=h8;have e2:ks=k :: r:=hk;subst e1 e2
  constructor
  ·rw[Qbd,xO rfl,Zlz]
  ·rw[Qbn,xO rfl,Qsd]
theorem Qfk{t:Tr}(h8:t.kind≠8):Qbd t=t/\Qbn t=0:=by
 cases t with
 | mk kd x ls ks =>
  have e1:¬ kd=8:=h8
  constructor
  ·rw[Qbd,xN e1]
  ·rw[Qbn,xN e1]
def Qcz:Nat->Tr->Tr
 | 0,u=>u
 | n+1,u=>.mk 8 ⟨#[]⟩ [] [Qcz n u]
def Qem(k:Int):Tr:=.mk k ⟨#[]⟩ [] []
theorem Qnt(k:Int)(n:Nat):∀ (l:List Tr) (i j:Nat) (a:Tr),Qbo k n i l=true->l[j]? = some a->Qg0 k n (i+j) a.kind=true/\Qa2 a=true
 | [],_,j,_,_,h=>by simp at h
 | b :: r,i,0,a,h,ha=>by
  rw[Qbo,Bool.and_eq_true,Bool.and_eq_true]at h;simp at ha
  subst ha;exact h.1
 | b :: r,i,j+1,a,h,ha=>by
  rw[Qbo,Bool.and_eq_true]at h;have:=Qnt k n r (i+1) j a h.2 (by simpa using ha)
  rwa[show i+1+j=i+(j+1) from by omega]at this
theorem Qf5{t:Tr}(h:Qa2 t=true):0<=Qat t.kind t.kids.length/\Qba (Qae t.kind) t.text=true/\∀ (j:Nat) (a:Tr),t.kids[j]? = some a->Qg0 t.kind t.kids.length j a.kind=true/\Qa2 a=true:=by
 rw[Qd8,Bool.and_eq_true,Bool.and_eq_true]at h
 refine⟨?_,h.1.2,fun j a ha=>?_⟩
 ·have h1:=h.1.1;rw[Bool.not_eq_true']at h1;have h2:=of_decide_eq_false h1;omega
 ·have:=Qnt _ _ _ 0 j a h.2 ha
  rwa[Nat.zero_add]at this
theorem Qlq{n m k:Int}(_hk:0<=k)(h:0<=Qbc n m k):n=m:=by
 unfold Qbc at h
 split at h
 ·assumption
 ·omega
theorem Qky{k:Int}(h:Qfd 3 k=true):5<=k/\k<=9:=by
 have e:Qfd 3 k=(decide (5<=k) && decide (k<=9)):=rfl;rw[e]at h
 simpa using h
theorem Zcj{t:Tr}(h:(t.kids.length:Int)=1):∃ k,t.kids = [k]:=by
 cases hk:t.kids with
 | nil=>rw[hk]at h;simp at h
 | cons a r =>
  cases r with
  | nil=>exact⟨a,rfl⟩
  | cons b r=>rw[hk]at h;simp at h;omega
theorem Qfu{t:Tr}(h:Qa2 t=true)(hk:5<=t.kind/\t.kind<=9):(t.kind=8/\∃ k,t.kids = [k]/\(5<=k.kind/\k.kind<=9)/\Qa2 k=true)\/(t.kind≠8/\t.kids = []/\(t.kind≠9->t.text=⟨#[]⟩)):=by
 obtain⟨h1,h2,h3⟩:=Qf5 h
 rcases(show t.kind=5\/t.kind=6\/t.kind=7\/t.kind=8\/t.kind=9 from by omega) with e | e | e | e | e
 ·rw[e]at h1 h2
  refine .inr ⟨by omega,?_,fun _=>?_⟩
  ·have:=Qlq (by decide) (show 0<=Qbc t.kids.length 0 1 from h1)
   exact List.eq_nil_of_length_eq_zero (by omega)
  ·have e2:Qba (Qae 5) t.text=is t.text []:=rfl;rw[e2]at h2;have h4:=eq_of_beq (show(t.text.data.toList==([]:List UInt8))=true from h2);cases hx:t.text with
   | mk d=>rw[hx]at h4;cases d;simp at h4;subst h4;rfl
 ·rw[e]at h1 h2
  refine .inr ⟨by omega,?_,fun _=>?_⟩
  ·have:=Qlq (by decide) (show 0<=Qbc t.kids.length 0 1 from h1)
   exact List.eq_nil_of_length_eq_zero (by omega)
  ·have e2:Qba (Qae 6) t.text=is t.text []:=rfl;rw[e2]at h2;have h4:=eq_of_beq (show(t.text.data.toList==([]:List UInt8))=true from h2);cases hx:t.text with
   | mk d=>rw[hx]at h4;cases d;simp at h4;subst h4;rfl
 ·rw[e]at h1 h2
  refine .inr ⟨by omega,?_,fun _=>?_⟩
  ·have:=Qlq (by decide) (show 0<=Qbc t.kids.length 0 1 from h1)
   exact List.eq_nil_of_length_eq_zero (by omega)
  ·have e2:Qba (Qae 7) t.text=is t.text []:=rfl;rw[e2]at h2;have h4:=eq_of_beq (show(t.text.data.toList==([]:List UInt8))=true from h2);cases hx:t.text with
   | mk d=>rw[hx]at h4;cases d;simp at h4;subst h4;rfl
 ·rw[e]at h1;obtain⟨k,hk'⟩:=Zcj (Qlq (by decide) (show 0<=Qbc t.kids.length 1 2 from h1));obtain⟨q1,q2⟩:=h3 0 k (by rw[hk'];rfl);rw[e]at q1;exact .inl ⟨e,k,hk',Qky q1,q2⟩
 ·rw[e]at h1;refine .inr ⟨by omega,?_,fun h=>absurd e h⟩;have:=Qlq (by decide) (show 0<=Qbc t.kids.length 0 1 from h1)
  exact List.eq_nil_of_length_eq_zero (by omega)
theorem Qnu{t:Tr}(h:Qa2 t=true)(h3:t.kind=3):∃ k,t.kids = [k]/\(5<=k.kind/\k.kind<=9)/\Qa2 k=true:=by
 obtain⟨h1,_,h4⟩:=Qf5 h;rw[h3]at h1;obtain⟨k,hk'⟩:=Zcj (Qlq (by decide) (show 0<=Qbc t.kids.length 1 3 from h1));obtain⟨q1,q2⟩:=h4 0 k (by rw[hk'];rfl);rw[h3]at q1;exact⟨k,hk',Qky q1,q2⟩
theorem Qyn{t:Tr}(h:Qa2 t=true)(h2:t.kind=2):2<=t.kids.length:=by
 obtain⟨h1,_,_⟩:=Qf5 h;rw[h2]at h1;have e:Qat 2 t.kids.length=if (2:Int)<=t.kids.length then 6+max 0 ((t.kids.length:Int)-3) else -1:=rfl
 rw[e]at h1
 split at h1 <;> omega
theorem Qhu(N:Nat):∀ t:Tr,SizeOf.sizeOf t<=N->Qa2 t=true->5<=t.kind/\t.kind<=9->((Qbd t).kind=5\/(Qbd t).kind=6\/(Qbd t).kind=7\/(Qbd t).kind=9)/\(Qbd t).kids = []/\((Qbd t).kind≠9->(Qbd t).text=⟨#[]⟩)/\Qa2 (Qbd t)=true:=by
 induction N with
 | zero=>intro t h;have:=Qf3 t;omega
 | succ N ih =>
  intro t hN h hk
  rcases Qfu h hk with⟨h8,k,hkk,h1,h2⟩|⟨h8,h1,h2⟩
  ·rw[(Qfj h8 hkk).1];exact ih k (by have:=Qar (t:=t) (j:=0) (k:=k) (by rw[hkk];rfl);omega) h2 h1
  ·rw[(Qfk h8).1];exact⟨by omega,h1,h2,h⟩
def Qjj(ps:List Tr)(m d:Nat):Tr:=(((ps[m]?).getD noTr).kids[d]?).getD noTr
def Qlr(ps:List Tr)(m d:Nat):Tr:=((Qjj ps m d).kids[0]?).getD noTr
def goL(ps:List Tr):Nat->Int × Int × Bool->List (Int × Int)->Nat->Option (Int × Nat × Int)
 | 0,_,_,_=>none
 | f+1,r,met,n =>
  if r.2.2=true then
   (if (r.1,r.2.1)∈met then some (19,0,0)
    else if (Qbd (Qlr ps r.1.toNat r.2.1.toNat)).kind=9 then goL ps f (Qbb ps r.1.toNat (Qbd (Qlr ps r.1.toNat r.2.1.toNat)).text) (met ++ [(r.1,r.2.1)]) (n+Qbn (Qlr ps r.1.toNat r.2.1.toNat))
    else some (0,n+Qbn (Qlr ps r.1.toNat r.2.1.toNat),(Qbd (Qlr ps r.1.toNat r.2.1.toNat)).kind))
  else some (7,0,0)
def Zg3:List Tr->Nat->List (Int × Int)
 | [],_=>[]
 | t :: r,i=>((List.range t.kids.length).map fun d=>((i:Int),((d:Nat):Int))) ++ Zg3 r (i+1)
theorem Qvx:(l:List Tr)->(i m d:Nat)->(t:Tr)->l[m]? = some t->d<t.kids.length->(((i+m:Nat):Int),(d:Int))∈Zg3 l i
 | [],_,m,_,_,h,_=>by simp at h
 | a :: r,i,0,d,t,h,hd=>by
  simp at h
  subst h;rw[Zg3];exact List.mem_append_left _ (List.mem_map.2 ⟨d,List.mem_range.2 hd,rfl⟩)
 | a :: r,i,m+1,d,t,h,hd=>by
  rw[Zg3];have:=Qvx r (i+1) m d t (by simpa using h) hd
  rw[show i+1+m=i+(m+1) from by omega]at this;exact List.mem_append_right _ this
theorem Qvy:(l:List Tr)->(i:Nat)->(Zg3 l i).length<=Qal l
 | [],_=>by rw[Zg3,Qal];exact xA _
 | t :: r,i=>by
  rw[Zg3,xB,List.length_map,List.length_range,Qal,Qa5 t];have h1:=Qvy r (i+1);have h2:=Qa0 t.kids;omega
theorem Qse{α:Type}[DecidableEq α]:(l a:List α)->l.Nodup->(∀ x∈l,x∈a)->l.length<=a.length
 | [],_,_,_=>xZ _
 | x :: l,a,hn,hs=>by
  obtain⟨h1,h2⟩:=List.nodup_cons.1 hn;have hx:x∈a:=hs x (by simp);have ih:=Qse l (a.erase x) h2 fun y hy=>(List.mem_erase_of_ne (fun e=>by subst e;exact h1 hy)).2 (hs y (by simp[hy]))
  rw[List.length_erase_of_mem hx]at ih;have:=List.length_pos_of_mem hx
  rw[xD];omega
theorem Qo7{α:Type}{l:List α}{x:α}(h:l.Nodup)(hx:x ∉ l):(l ++ [x]).Nodup:=by
 rw[List.nodup_append];refine⟨h,by simp,fun a ha b hb e=>?_⟩;simp at hb
 subst hb e;exact hx ha
def InD(ps:List Tr)(a:Int × Int):Prop:=∃ (m d:Nat) (t k:Tr),a=((m:Int),(d:Int))/\ps[m]? = some t/\t.kids[d]? = some k
theorem InD.mem{ps:List Tr}{a:Int × Int}(h:InD ps a):a∈Zg3 ps 0:=by
 obtain⟨m,d,t,k,rfl,h1,h2⟩:=h;have:=Qvx ps 0 m d t h1 (xP.1 h2).1
 rwa[Nat.zero_add]at this
theorem Zck{ps:List Tr}{met:List (Int × Int)}(hn:met.Nodup)(hm:∀ a∈met,InD ps a):met.length<=Qal ps:=xQ (Qse met (Zg3 ps 0) hn fun a ha=>(hm a ha).mem) (Qvy ps 0)
theorem Qo8:(l:List Tr)->(x:yD)->Qqj l x<l.length->∃ t,l[Qqj l x]? = some t/\t.text=x
 | [],x,h=>by simp at h
 | a :: r,x,h=>by
  by_cases hx:a.text=x
  ·rw[Qqj,xO hx];exact⟨a,rfl,hx⟩
  ·rw[Qqj,xN hx]at h |-;obtain⟨t,h1,h2⟩:=Qo8 r x (by simpa using h);exact⟨t,by simpa using h1,h2⟩
theorem Qmd{ps:List Tr}{i:Nat}{x:yD}(h:(Qfa ps i x).2.2=true):∃ (t k:Tr) (d:Nat),ps[i]? = some t/\t.kids[d]? = some k/\k.text=x/\Qfa ps i x=((i:Int),(d:Int),true):=by
 unfold Qfa at h |-
 split at h
 ·rename_i hk;cases ht:ps[i]? with
  | none=>rw[ht]at hk;exact absurd hk (by simp[noTr,Tr.kids])
  | some t =>
   rw[ht,Option.getD_some]at hk;obtain⟨k,h1,h2⟩:=Qo8 t.kids x hk;refine⟨t,k,_,rfl,h1,h2,?_⟩;rw[Option.getD_some,xO hk]
 ·cases h
theorem Qvz{ps:List Tr}{i:Nat}{s:yD}(h:(Qbb ps i s).2.2=true):∃ (m d:Nat) (t k:Tr),ps[m]? = some t/\t.kids[d]? = some k/\k.text=(Qg5 s).2.1/\Qbb ps i s=((m:Int),(d:Int),true):=by
 unfold Qbb at h |-;cases hd:(Qg5 s).2.2 with
 | true =>
  rw[hd,xO rfl]at h;rw[xO rfl]
  split at h
  ·rename_i hk;obtain⟨t,k,d,h1,h2,h3,h4⟩:=Qmd h;rw[xO hk];exact⟨_,d,t,k,h1,h2,h3,h4⟩
  ·cases h
 | false =>
  rw[hd,xN (by decide)]at h;rw[xN (by decide)];obtain⟨t,k,d,h1,h2,h3,h4⟩:=Qmd h;exact⟨i,d,t,k,h1,h2,h3,h4⟩
theorem Qum{ps:List Tr}{i:Nat}{s:yD}(h:(Qbb ps i s).2.2=true):InD ps ((Qbb ps i s).1,(Qbb ps i s).2.1):=by
 obtain⟨m,d,t,k,h1,h2,_,h4⟩:=Qvz h;rw[h4];exact⟨m,d,t,k,rfl,h1,h2⟩
theorem Zcl{ps:List Tr}{i:Nat}{s:yD}(h:(Qbb ps i s).2.2=false):Qbb ps i s=(0,0,false):=by
 unfold Qbb Qfa at h |-
 split
 ·rename_i h1;rw[xO h1]at h
  split
  ·rename_i h2;rw[xO h2]at h
   split
   ·rename_i h3;rw[xO h3]at h;cases h
   ·rfl
  ·rfl
 ·rename_i h1;rw[xN h1]at h
  split
  ·rename_i h3;rw[xO h3]at h;cases h
  ·rfl
theorem Qsf(ps:List Tr):(f:Nat)->(r:Int × Int × Bool)->(met:List (Int × Int))->(n:Nat)->met.Nodup->(∀ a∈met,InD ps a)->(r.2.2=true->InD ps (r.1,r.2.1))->Qal ps+1<=f+met.length->∃ R,goL ps f r met n=some R
 | 0,r,met,n,hn,hm,_,hf=>by
  have:=Zck hn hm
  omega
 | f+1,r,met,n,hn,hm,hr,hf=>by
  rw[goL]
  split
  ·rename_i h
   split
   ·exact⟨_,rfl⟩
   ·rename_i hx
    split
    ·refine Qsf ps f _ _ _ (Qo7 hn hx) (fun a ha=>?_) (fun h'=>Qum h') (by rw[xB,List.length_singleton];omega)
     rcases List.mem_append.1 ha with ha | ha
     ·exact hm a ha
     ·simp at ha
      subst ha;exact hr h
    ·exact⟨_,rfl⟩
  ·exact⟨_,rfl⟩
def Qtg(ps:List Tr)(m:Nat)(t:Tr):Int × Nat × Int :=
 if (Qbd t).kind=9 then (goL ps (Qal ps+1) (Qbb ps m (Qbd t).text) [] (Qbn t)).getD (0,0,0) else (0,Qbn t,(Qbd t).kind)
theorem Qun{ps:List Tr}{m:Nat}{t:Tr}(h:(Qbd t).kind=9):goL ps (Qal ps+1) (Qbb ps m (Qbd t).text) [] (Qbn t)=some (Qtg ps m t):=by
 obtain⟨R,hR⟩:=Qsf ps (Qal ps+1) (Qbb ps m (Qbd t).text) [] (Qbn t) List.nodup_nil (by simp) (fun h=>Qum h) (by simp);unfold Qtg;rw[xO h,hR];rfl
def Qdu(ps:List Tr)(m:Int)(t:Tr):Int × Nat × Int :=
 if Qc1 ps=false\/m<0\/(ps.length:Int)<=m\/¬ (5<=t.kind/\t.kind<=9)\/Qam t=false then (5,0,0) else Qtg ps m.toNat t
theorem Qnv(S:Nat->Prop)(A:yE)(c:Nat)(ps:List Tr)(w:World)(hp:TrAt S w (Qa9 ps) ⟨0,⟨#[]⟩,none,0,0,A,ps.length,c⟩)(hf:Qbs (Qa9 ps)=true)(hw:Qbg (Qa9 ps)=true) :
  Calls prog 34 #[.slice A ps.length c] w fun e w'=>e = .returned (.bool (Qc1 ps))/\Below w.heap.size w w':=by
 have HP:=hQ hp;have HF:=hQ (Qcc hf).2.2;have HWD:=hQ (Qa7 hw).2.2;have hl:ps.length<=140737488355328:=(Qcc hf).2.1;clear hp hf hw;go_enter func34,ntmps34;go_wp2
 go_loopw [7] (fun i wr=>∃ k:Nat,i = .int .i64 k/\k<=ps.length/\Hid (Qo6 ps k)/\Below w.heap.size w wr) (fun i _=>ps.length-(intOf i).toNat)
 case atStart=>exact⟨0,rfl,xZ _,hQ fun j t hj=>absurd hj (by omega),xC _ _⟩
 case round =>
  obtain⟨k,rfl,hk,hn,hb⟩:=hrel;have HN:=hn;have HBR:=hQ hb;clear hn hb
  by_cases hlt:k<ps.length
  ·obtain⟨t,ht⟩:∃ t,ps[k]? = some t:=⟨_,xF hlt⟩;obtain⟨b,off,hka⟩:∃ b off,A=some ⟨b,off,none⟩:=HP.out.addr.resolve_left (by show ¬ ps.length=0;omega);subst hka;obtain⟨u,c0,c1,c2,c3,hu⟩:=(HP.out.keep HBR.out).at rfl (show(Qa9 ps).kids[k]? = some t from ht);have HU:=hQ hu;have HTX:=hQ hu.kl.2.2.1;have HK:=hQ ht;have cl:=xK wr _ c0;have hk0:(0:Int)<=(k:Int):=by omega
   have hk1:(k:Int)<(ps.length:Int):=by omega
   have hk2:(k:Int)+1<=1900000000000001:=by omega
   have HA:=hQ ((xC wr.heap.size wr).alloc (xA _) (trO u));have HC:=hQ (Qlk _ S t u (wr.alloc (trO u)) (xA _) (HU.out.keep HA.out) (HF.out k t HK.out) (HWD.out k t HK.out));clear hu ht;obtain⟨vk,vx,vla,vll,vlc,vka,vkl,vkc⟩:=u
   by_cases hx:vk=1
   ·subst hx;have HX:=hQ (show t.kind=1 from HTX.out.symm)
    by_cases hs:Qam t=true
    ·have HS:=hQ hs;rw[hs]at HC;clear hs;go_wp2_with (go_at_call 62;refine HC.out.mono ?_;rintro e w1⟨rfl,hb⟩;have HB1:=hQ (yC HA.out hb);clear hb)
     go_roundw
     case measure=>first | (simp[intOf];done) | (simp[intOf];omega)
     case rel=>exact⟨k+1,by go_num,by omega,hQ (Qno HN.out HK.out HX.out HS.out),yC HBR.out HB1.out⟩
    ·have hs':Qam t=false:=by simpa using hs
     have HV:=hQ (Qi9 HK.out (fun h=>hs h.2));rw[hs']at HC;clear hs hs';go_wp2_with (go_at_call 62;refine HC.out.mono ?_;rintro e w1⟨rfl,hb⟩;have HB1:=hQ (yC HA.out hb);clear hb)
     refine bodyPost_ret (v:=.bool false) (by simp[results,results34,go_sem, *]) rfl ?_;rw[HV.out];exact⟨rfl,yC HBR.out HB1.out⟩
   ·have q1:=Qcr hx;have HV:=hQ (Qi9 HK.out (fun h=>hx (HTX.out.trans h.1)));go_wp2;refine bodyPost_ret (v:=.bool false) (by simp[results,results34,go_sem, *]) rfl ?_;rw[HV.out];exact⟨rfl,yC HBR.out HA.out⟩
  ·obtain rfl:k=ps.length:=by omega
   have HV:=hQ (Qqo HN.out);go_wp2
   try rw[Exit.noGoto_ret]
   first | go_ret3 | go_ret
   rw[HV.out];exact⟨rfl,HBR.out⟩
def Qnw(t:Tr):Bool:=decide (5<=t.kind) && decide (t.kind<=9) && Qam t
theorem Qyo(S:Nat->Prop)(t:Tr)(v:TV)(w:World)(h:TrAt S w t v)(hf:Qbs t=true)(hw:Qbg t=true) :
  Calls prog 54 #[.agg #[.int .i64 v.kind,.string v.text,.slice v.la v.ll v.lc,.slice v.ka v.kl v.kc]] w fun e w'=>e = .returned (.bool (Qnw t))/\Below w.heap.size w w':=by
 have HA:=hQ ((xC w.heap.size w).alloc (xA _) (trO v));have HX:=xH w (trO v);have HC:=hQ (Qlk _ S t v (w.alloc (trO v)) (xA _) (h.keep HA.out) hf hw);have hk:=h.kl.2.2.1;clear h hf hw;obtain⟨vk,vx,vla,vll,vlc,vka,vkl,vkc⟩:=v;simp only at hk;have k0:=Qab HX 0 _ rfl;have k1:=Qab HX 1 _ rfl;have k2:=Qab HX 2 _ rfl;have k3:=Qab HX 3 _ rfl;clear HX;have HR:=hQ (show Qnw t=(decide (5<=vk) && decide (vk<=9) && Qam t) from by unfold Qnw;rw[hk]);clear hk
 by_cases h5:5<=vk
 ·have d5:=xS h5
  by_cases h9:vk<=9
  ·have d9:=xS h9;have HV:=hQ (show Qnw t=Qam t from by rw[HR.out,d5,d9];rfl);clear h5 h9;go_enter func54,ntmps54;go_wp2_with (go_at_call 62;refine HC.out.mono ?_;rintro e w1⟨rfl,hb⟩;have HB1:=hQ (yC HA.out hb);clear hb)
   go_ret;exact⟨by rw[HV.out];first | rfl | simp,HB1.out⟩
  ·have d9:=xR h9;have HV:=hQ (show Qnw t=false from by rw[HR.out,d5,d9];rfl);clear h5 h9 HC;go_enter func54,ntmps54;go_wp2;go_ret;exact⟨by rw[HV.out];first | rfl | simp,HA.out⟩
 ·have d5:=xR h5;have HV:=hQ (show Qnw t=false from by rw[HR.out,d5];rfl);clear h5 HC;go_enter func54,ntmps54;go_wp2;go_ret;exact⟨by rw[HV.out];first | rfl | simp,HA.out⟩
theorem Qfb:(t:Tr)->Qbn t<=Qai t
 | .mk k x ls ks=>by
  rw[Qbn,Qai]
  split
  ·have:Qsd ks<=Qal ks:=by
    cases ks with
    | nil=>rw[Qsd];exact xZ _
    | cons a r =>
     rw[Qsd,Qal];have:=Qfb a
     omega
   omega
  ·omega
theorem Qv0(N:Nat):∀ (S:Nat->Prop) (t:Tr) (v:TV) (w:World),SizeOf.sizeOf t<=N->(∀ b,S b->b<w.heap.size)->TrAt S w t v->Qa2 t=true->5<=t.kind/\t.kind<=9->Qai t<=2000000 ->
  Calls prog 55 #[.agg #[.int .i64 v.kind,.string v.text,.slice v.la v.ll v.lc,.slice v.ka v.kl v.kc]] w fun e w'=>∃ u:TV,e = .returned (.tuple #[.agg #[.int .i64 u.kind,.string u.text,.slice u.la u.ll u.lc,.slice u.ka u.kl u.kc],.int .i64 (Qbn t:Nat)])/\TrAt S w' (Qbd t) u/\Below w.heap.size w w':=by
 induction N with
 | zero=>intro S t v w h;have:=Qf3 t;omega
 | succ N ih =>
  intro S t v w hN hS h hs hk hz;have HS:=hQ hS;have HTW:=hQ h;have hb0:=((xC w.heap.size w).alloc (xA _) (trO v)).alloc (by rw[xI];omega) (.cells #[.int .i64 0,.string ⟨#[]⟩,.slice none 0 0,.slice none 0 0] 25);have HB0:=hQ hb0;have HX:=hQ (show((w.alloc (trO v)).alloc (.cells #[.int .i64 0,.string ⟨#[]⟩,.slice none 0 0,.slice none 0 0] 25)).heap[w.heap.size]? = some (trO v) from(((xC (w.alloc (trO v)).heap.size _).alloc (xA _) _).block w.heap.size (by simp)).trans (xH w _));have HRR:=hQ (show((w.alloc (trO v)).alloc (.cells #[.int .i64 0,.string ⟨#[]⟩,.slice none 0 0,.slice none 0 0] 25)).heap[w.heap.size+1]? = some (trO ⟨0,⟨#[]⟩,none,0,0,none,0,0⟩) from by rw[<-xI w (trO v)];exact xH _ _);have HT:=hQ (h.keep hb0);have e1:=h.kl.2.2.1;clear hb0;obtain⟨vk,vx,vla,vll,vlc,vka,vkl,vkc⟩:=v;simp only at e1;have k0:=Qab HX.out 0 _ rfl;have k1:=Qab HX.out 1 _ rfl;have k2:=Qab HX.out 2 _ rfl;have k3:=Qab HX.out 3 _ rfl;have r0:=Qab HRR.out 0 _ rfl;have r1:=Qab HRR.out 1 _ rfl;have r2:=Qab HRR.out 2 _ rfl;have r3:=Qab HRR.out 3 _ rfl;have rbl:=Qaa HRR.out;have rrf:=xL HRR.out
  rcases Qfu hs hk with⟨h8,k,hkk,hk1,hk2⟩|⟨h8,_,_⟩
  ·have hv8:vk=8:=e1.trans h8;subst hv8;obtain⟨q1,q2⟩:=Qfj h8 hkk;have HQ1:=hQ q1;have HQ2:=hQ q2;have hkj:t.kids[0]? = some k:=by rw[hkk];rfl
   have hkl:vkl=1:=by have:=h.kl.1;rw[hkk]at this;exact this
   subst hkl;obtain⟨b,off,hka⟩:∃ b off,vka=some ⟨b,off,none⟩:=h.addr.resolve_left (by rw[hkk];simp);subst hka;obtain⟨u,c0,c1,c2,c3,hu⟩:=h.at rfl hkj;simp only[Nat.zero_mul,Nat.add_zero]at c0 c1 c2 c3;have cl:=xK w _ c0;have HC:=hQ (ih S k u _ (by have:=Qar hkj;omega) (fun b hb=>xE (hS b hb) HB0.out.size) (hu.keep HB0.out) hk2 hk1 (by have:=Qbi hkj;omega));have hlz:Qbn k<=2000000:=by have:=Qfb k;have:=Qbi hkj;omega
   have hl1:(Qbn k:Int)+1<=2000001:=by omega
   have hl0:(0:Int)<=(Qbn k:Int):=by omega
   clear ih hN hS h hs hk hz hk1 hk2 hkk hkj hu q1 q2 h8 e1;go_enter func55,ntmps55;go_wp2_with (go_at_call 55;refine HC.out.mono ?_;rintro e w1⟨y,rfl,hy,hb⟩;have HY:=hQ hy;have HB1:=hQ hb;have HR1:=hQ ((hb.block _ rbl).trans HRR.out);have g0:=Qab HR1.out 0 _ rfl;have g1:=Qab HR1.out 1 _ rfl;have g2:=Qab HR1.out 2 _ rfl;have g3:=Qab HR1.out 3 _ rfl;have gbl:=Qaa HR1.out;have grf:=xL HR1.out;clear hy hb r0 r1 r2 r3 rbl rrf k0 k1 k2 k3 c0 c1 c2 c3)
   refine bodyPost_ret (v:=.tuple #[.agg #[.int .i64 y.kind,.string y.text,.slice y.la y.ll y.lc,.slice y.ka y.kl y.kc],.int .i64 ((Qbn k:Int)+1)]) (by simp[results,results55,go_sem, *]) rfl ?_;have hb2:Below w1.heap.size (Qek w1 (w.heap.size+1) y) ((Qek w1 (w.heap.size+1) y).alloc (trO y)):=(xC _ _).alloc (by rw[Qb7];exact xA _) _
   refine⟨y,by rw[HQ2.out];rfl,?_,?_⟩
   ·rw[HQ1.out];refine TrAt.move (w:=w1) (fun _ h=>h) (fun b hb hl=>?_) _ _ HY.out;exact(hb2.block b hl).trans (Qa3 y (by have:=HS.out b hb;omega))
   ·exact HB0.out.trans ((HB1.out.mono HB0.out.size).trans (((Qb6 w1 (w.heap.size+1) y).mono (Nat.le_succ _)).trans (hb2.mono (xQ HB0.out.size HB1.out.size))))
  ·have hv8:vk≠8:=fun e=>h8 (e1.symm.trans e)
   have b8:=Qcr hv8;obtain⟨q1,q2⟩:=Qfk h8;have HQ1:=hQ q1;have HQ2:=hQ q2;clear ih hN hS h hs hk hz q1 q2 h8 e1 hv8;go_enter func55,ntmps55;go_wp2;refine bodyPost_ret (v:=.tuple #[.agg #[.int .i64 vk,.string vx,.slice vla vll vlc,.slice vka vkl vkc],.int .i64 0]) (by simp[results,results55,go_sem, *]) rfl ?_;have hb2:Below w.heap.size w ((w.alloc (trO ⟨vk,vx,vla,vll,vlc,vka,vkl,vkc⟩)).alloc (trO ⟨vk,vx,vla,vll,vlc,vka,vkl,vkc⟩)):=((xC w.heap.size w).alloc (xA _) _).alloc (by rw[xI];omega) _;exact⟨⟨vk,vx,vla,vll,vlc,vka,vkl,vkc⟩,by rw[HQ2.out];rfl,by rw[HQ1.out];exact HTW.out.keep hb2,hb2⟩
theorem Qv1(N:Nat):∀ (S:Nat->Prop) (t:Tr) (v:TV) (w:World),SizeOf.sizeOf t<=N->(∀ b,S b->b<w.heap.size)->TrAt S w t v->Qa2 t=true->5<=t.kind/\t.kind<=9->Qai t<=1000 ->
  Calls prog 55 #[.agg #[.int .i64 v.kind,.string v.text,.slice v.la v.ll v.lc,.slice v.ka v.kl v.kc]] w fun e w'=>∃ u:TV,e = .returned (.tuple #[.agg #[.int .i64 u.kind,.string u.text,.slice u.la u.ll u.lc,.slice u.ka u.kl u.kc],.int .i64 (Qbn t:Nat)])/\TrAt S w' (Qbd t) u/\Below w.heap.size w w':=fun S t v w h1 h2 h3 h4 h5 h6=>Qv0 N S t v w h1 h2 h3 h4 h5 (by omega)
end Go.Proofs.YtfjpemdejoejbaaGreat
namespace Go.Proofs.YtfjpemdejoejbaaGreat
open Go.Proofs.Tryz Go.RowKit Go.Shelf
def Qif(d:Tr):Tr:=.mk d.kind d.text [] (if d.kind=3 then [Qbd ((d.kids[0]?).getD noTr)] else [Qem 5,Qem 15])
def Qq7(t:Tr):Tr:=.mk t.kind t.text [] (t.kids.map Qif)
def Qig(ps:List Tr):List Tr:=ps.map Qq7
theorem Qqr{ps:List Tr}{m:Nat}:(Qig ps)[m]? = (ps[m]?).map Qq7:=List.getElem?_map
theorem Qdv(w:World)(a b:Obj):((w.alloc a).alloc b).heap[w.heap.size]? = some a/\((w.alloc a).alloc b).heap[w.heap.size+1]? = some b :=
 ⟨(((xC (w.alloc a).heap.size _).alloc (xA _) _).block w.heap.size (by simp)).trans (xH w _),by rw[<-xI w a];exact xH _ _⟩
theorem Qe0(w:World)(a b:Obj):Below w.heap.size w ((w.alloc a).alloc b):=((xC w.heap.size w).alloc (xA _) _).alloc (by rw[xI];omega) _
theorem Qgo{ps:List Tr}{j:Nat}{t:Tr}(h:Qc1 ps=true)(ht:ps[j]? = some t):t.kind=1/\Qam t=true:=by
 unfold Qc1 at h;rw[List.all_eq_true]at h;have:=h t (yA ht)
 simp at this
 exact this
def OT(w:World)(B0 lo:Nat)(l:Value)(ts:List Tr):Prop:=∃ vs:List TV,vs.length=ts.length/\w.ownsRow lo 25 4 l ts.length (Qag vs) /\
 ∀ (i:Nat) (k:Tr) (u:TV),ts[i]? = some k->vs[i]? = some u->TrAt (fun b=>(b<B0\/lo<=b)/\b<w.heap.size/\l.ownBlock≠some b) w k u
theorem OT.nil(w:World)(B0 lo:Nat):OT w B0 lo (.slice none 0 0) []:=⟨[],rfl,World.ownsRow_nil _ _ _ _,fun i k u h=>by simp at h⟩
theorem OT.empty{w:World}{B0 lo:Nat}{l:Value}(h:w.ownsRow lo 25 4 l 0 []):OT w B0 lo l []:=⟨[],rfl,h,fun i k u h=>by simp at h⟩
theorem OT.keep{w w':World}{B0 lo:Nat}{l:Value}{ts:List Tr}(h:OT w B0 lo l ts)(hs:w.heap.size<=w'.heap.size)(hb:∀ b,b<w.heap.size->(b<B0\/lo<=b)->w'.heap[b]? = w.heap[b]?):OT w' B0 lo l ts:=by
 obtain⟨vs,h1,h2,h3⟩:=h;refine⟨vs,h1,⟨h2.1,h2.2.imp id fun⟨g,cap,cur,hv,hB,hh,r⟩=>⟨g,cap,cur,hv,hB,(hb g (Qaa hh) (.inr hB)).trans hh,r⟩⟩,fun i k u hk hu=>?_⟩;exact TrAt.move (fun b hb'=>⟨hb'.1,xE hb'.2.1 hs,hb'.2.2⟩) (fun b hb' hl=>hb b hl hb'.1) _ _ (h3 i k u hk hu)
theorem OT.below{w w':World}{B0 lo:Nat}{l:Value}{ts:List Tr}(h:OT w B0 lo l ts)(hb:Below w.heap.size w w'):OT w' B0 lo l ts:=h.keep hb.size fun b hl _=>hb.block b hl
theorem OT.slice{w:World}{B0 lo:Nat}{l:Value}{ts:List Tr}(h:OT w B0 lo l ts):∃ A c,l = .slice A ts.length c:=by
 obtain⟨vs,_,h2,_⟩:=h;exact Qhp h2
theorem OT.lt{w:World}{B0 lo:Nat}{l:Value}{ts:List Tr}(h:OT w B0 lo l ts):∀ b,l.ownBlock=some b->lo<=b/\b<w.heap.size:=by
 obtain⟨vs,_,h2,_⟩:=h;exact h2.lt
theorem OT.snoc{w w':World}{B0 lo g cap:Nat}{l:Value}{ts:List Tr}{vs:List TV}{k:Tr}{y:TV}(h1:vs.length=ts.length)(_hrow:w.ownsRow lo 25 4 l ts.length (Qag vs))
  (h3:∀ (i:Nat) (k:Tr) (u:TV),ts[i]? = some k->vs[i]? = some u->TrAt (fun b=>(b<B0\/lo<=b)/\b<w.heap.size/\l.ownBlock≠some b) w k u)
  (hy:TrAt (fun b=>(b<B0\/lo<=b)/\b<w.heap.size/\l.ownBlock≠some b) w k y)
  (ho:w'.ownsRow lo 25 4 (.slice (some ⟨g,0,none⟩) (ts.length+1) cap) (ts.length+1) (Qag vs ++ y.cells)) (hk:Keeps (pre l (ts.length*4)) w w') (hg:l.ownBlock=some g\/w.heap.size<=g) :
  OT w' B0 lo (.slice (some ⟨g,0,none⟩) (ts.length+1) cap) (ts ++ [k]):=by
 have hkeep:∀ (a:Tr) (u:TV),TrAt (fun b=>(b<B0\/lo<=b)/\b<w.heap.size/\l.ownBlock≠some b) w a u->TrAt (fun b=>(b<B0\/lo<=b)/\b<w'.heap.size/\(Value.slice (some ⟨g,0,none⟩) (ts.length+1) cap).ownBlock≠some b) w' a u:=fun a u ha =>
  TrAt.move (fun b hb=>⟨hb.1,xE hb.2.1 hk.size,fun e=>by
   have e':g=b:=by simpa [Value.ownBlock] using e
   subst e'
   rcases hg with h | h
   ·exact hb.2.2 h
   ·have:=hb.2.1;omega⟩) (fun b hb hl=>hk.block b hl (Qch hb.2.2)) _ _ ha
 refine⟨vs ++ [y],by simp[h1],?_,fun i a u ha hu=>?_⟩
 ·have e:Qag (vs ++ [y])=Qag vs ++ y.cells:=by unfold Qag;simp
  rw[e,xB,List.length_singleton];exact ho
 ·by_cases hi:i<ts.length
  ·rw[yB hi]at ha;rw[yB (by rw[h1];exact hi)]at hu;exact hkeep a u (h3 i a u ha hu)
  ·have hl:=(xP.1 ha).1;rw[xB,List.length_singleton]at hl;obtain rfl:i=ts.length:=by omega
   rw[xX (xA _),Nat.sub_self]at ha;rw[<-h1,xX (xA _),Nat.sub_self]at hu;injection ha with ha;injection hu with hu;subst ha hu;exact hkeep _ _ hy
theorem Qqs{S:Nat->Prop}{g:Nat}{w:World}{ks:List Tr}{us:List TV}(k:Int)(x:yD)(hl:us.length=ks.length)(h:∀ (i:Nat) (a:Tr) (u:TV),ks[i]? = some a->us[i]? = some u->TrAt S w a u)
  (hg:w.heap[g]? = some (.cells (Qag us).toArray 25 (0,0))) (hS:S g) (n:Nat) (hn:n=us.length):TrAt S w (.mk k x [] ks) ⟨k,x,none,0,0,some ⟨g,0,none⟩,n,n⟩:=by
 subst hn;unfold TrAt;refine⟨rfl,rfl,rfl,hl,fun hne=>absurd rfl hne,fun _=>⟨g,0,rfl,hS,TrsAt.of ks 0 fun i t ht=>?_⟩,xA _,xA _⟩;have hi:=(xP.1 ht).1;obtain⟨u,hu⟩:∃ u,us[i]? = some u:=⟨_,xF (by rw[hl];exact hi)⟩;obtain⟨q0,q1,q2,q3⟩:=Qd1 us i u hu;have hc:∀ (j:Nat) (x:Value),(Qag us)[j]? = some x->w.cell? ⟨g,j,none⟩=some x:=fun j x hx=>Qab hg j x (by simpa using hx)
 rw[Nat.zero_add];exact⟨u,hc _ _ q0,hc _ _ q1,hc _ _ q2,hc _ _ q3,h i t u ht hu⟩
theorem OT.node{w:World}{B0 lo c:Nat}{A:yE}{ts:List Tr}{S:Nat->Prop}(h:OT w B0 lo (.slice A ts.length c) ts)(k:Int)(x:yD)(hS:∀ b,b<B0\/lo<=b->b<w.heap.size->S b):TrAt S w (.mk k x [] ts) ⟨k,x,none,0,0,A,ts.length,c⟩:=by
 obtain⟨vs,h1,h2,h3⟩:=h;unfold TrAt;refine⟨rfl,rfl,rfl,rfl,fun hne=>absurd rfl hne,fun hne=>?_,xA _,Qgv h2⟩;obtain⟨g,cap,hv,hg1,hg2⟩:=World.ownsRow.form h2 (List.length_pos_iff.2 hne);injection hv with hv1 hv2 hv3;subst hv1 hv3;have hcs:=h2.cells (g:=g) rfl
 have hc:∀ (j:Nat) (x:Value),(Qag vs)[j]? = some x->w.cell? ⟨g,j,none⟩=some x:=fun j x hx=>by
  have h:=hcs j x hx;rw[Addr.add_lit]at h;simp only[Nat.zero_add]at h;exact h
 refine⟨g,0,rfl,hS g (.inr hg1) hg2,TrsAt.of ts 0 fun i t ht=>?_⟩;obtain⟨u,hu⟩:∃ u,vs[i]? = some u:=⟨_,xF (by rw[h1];exact(xP.1 ht).1)⟩;obtain⟨q0,q1,q2,q3⟩:=Qd1 vs i u hu;rw[Nat.zero_add];exact⟨u,hc _ _ q0,hc _ _ q1,hc _ _ q2,hc _ _ q3,TrAt.move (fun b hb=>hS b hb.1 hb.2.1) (fun _ _ _=>rfl) _ _ (h3 i t u ht hu)⟩
theorem Qv5{α β:Type}(f:α->β)(l:List α)(j:Nat)(x:α)(h:l[j]? = some x):(l.take (j+1)).map f=(l.take j).map f ++ [f x]:=by
 rw[List.take_add_one,h,Option.toList_some,List.map_append];rfl
mutual
def Qim:Tr->List Tr
 | .mk k x l ks=>.mk k x l ks :: Qga ks
def Qga:List Tr->List Tr
 | []=>[]
 | a :: r=>Qim a ++ Qga r
end
theorem Qsy(t:Tr):Qim t=t :: Qga t.kids:=by
 cases t
 rw[Qim];rfl
mutual
theorem Qfo:(t:Tr)->(Qim t).length=Qai t
 | .mk k x l ks=>by rw[Qim,Qai,xD,Qly ks];omega
theorem Qly:(l:List Tr)->(Qga l).length=Qal l
 | []=>by rw[Qga,Qal];rfl
 | a :: r=>by rw[Qga,Qal,xB,Qfo a,Qly r]
end
theorem Qj5(a:Tr):(l:List Tr)->Qga (l ++ [a])=Qga l ++ Qim a
 | []=>by simp[Qga]
 | b :: r=>by rw[xV,Qga,Qga,Qj5 a r,xT]
theorem Zd1:(l:List Tr)->(j:Nat)->Qal (l.take j)<=Qal l
 | [],j=>by simp
 | a :: r,0=>by rw[List.take_zero,Qal];omega
 | a :: r,j+1=>by
  rw[List.take_succ_cons,Qal,Qal];have:=Zd1 r j
  omega
theorem Zii:(l:List Tr)->(k:Tr)->k∈l->Qai k<=Qal l
 | [],k,h=>by simp at h
 | a :: r,k,h=>by
  rw[Qal]
  rcases List.mem_cons.1 h with h | h
  ·subst h;omega
  ·have:=Zii r k h
   omega
def NR(S:Nat->Prop)(lo:Nat)(w:World)(l:Value)(ts:List Tr):Prop:=∃ vs:List TV,vs.length=ts.length/\w.ownsRow lo 25 4 l ts.length (Qag vs)/\∀ (i:Nat) (k:Tr) (u:TV),ts[i]? = some k->vs[i]? = some u->TrAt S w k u
theorem Zmb(vs:List TV):∀ u∈Qag vs,u.oneCell'=true:=fun u hu=>by
 unfold Qag at hu;obtain⟨v,_,h⟩:=List.mem_flatMap.1 hu;exact Qgu v u h
theorem NR.one{S:Nat->Prop}{w:World}{t:Tr}{v:TV}{lo g:Nat}(ht:TrAt S w t v)(hg:w.heap[g]? = some (trO v))(hlo:lo<=g):NR S lo w (.slice (some ⟨g,0,none⟩) 1 1) [t]:=by
 refine⟨[v],rfl,⟨by rw[Qd6];rfl,.inr ⟨g,1,_,rfl,hlo,hg,xA _,by unfold maxLen;omega,rfl,rfl⟩⟩,fun i k u hk hu=>?_⟩
 match i,hk,hu with
 | 0,hk,hu =>
  injection hk with hk;injection hu with hu;subst hk hu;exact ht
 | i+1,hk,_=>simp at hk
theorem NR.later{S:Nat->Prop}{w w':World}{lo:Nat}{l:Value}{ts:List Tr}(h:NR S lo w l ts)(hb:Below w.heap.size w w'):NR S lo w' l ts:=by
 obtain⟨vs,h1,h2,h3⟩:=h;exact⟨vs,h1,(Keeps.of_below (P:=fun _=>none) hb).row h2 fun _ _=>.inl rfl,fun i k u hk hu=>(h3 i k u hk hu).keep hb⟩
theorem NR.slice{S:Nat->Prop}{w:World}{lo:Nat}{l:Value}{ts:List Tr}(h:NR S lo w l ts):∃ A c,l = .slice A ts.length c:=by
 obtain⟨vs,_,h2,_⟩:=h;exact Qhp h2
theorem NR.mono{S:Nat->Prop}{w:World}{lo lo2:Nat}{l:Value}{ts:List Tr}(h:NR S lo w l ts)(hl:lo2<=lo):NR S lo2 w l ts:=by
 obtain⟨vs,h1,h2,h3⟩:=h;exact⟨vs,h1,⟨h2.1,h2.2.imp id fun⟨g,cap,cur,a,b,r⟩=>⟨g,cap,cur,a,xQ hl b,r⟩⟩,h3⟩
theorem NR.join{S:Nat->Prop}{w w':World}{lo g cap:Nat}{l:Value}{ts us:List Tr}{vs xs:List TV}(h1:vs.length=ts.length)(hrow:w.ownsRow lo 25 4 l ts.length (Qag vs))
  (h3:∀ (i:Nat) (k:Tr) (u:TV),ts[i]? = some k->vs[i]? = some u->TrAt S w k u) (q1:xs.length=us.length) (q3:∀ (i:Nat) (k:Tr) (u:TV),us[i]? = some k->xs[i]? = some u->TrAt S w k u) (hS:∀ b,S b->b<lo)
  (ho:w'.ownsRow lo 25 4 (.slice (some ⟨g,0,none⟩) (ts.length+us.length) cap) (ts.length+us.length) (Qag vs ++ Qag xs)) (hk:Keeps (pre l (ts.length*4)) w w') :
  NR S lo w' (.slice (some ⟨g,0,none⟩) (ts.length+us.length) cap) (ts ++ us):=by
 have hown:∀ b,l.ownBlock=some b->lo<=b:=fun b e=>(World.ownsRow.lt hrow b e).1
 have hm:∀ (a:Tr) (u:TV),TrAt S w a u->TrAt S w' a u:=fun a u ha=>TrAt.move (fun _ h=>h) (fun b hb hl=>hk.block b hl (Qch fun e=>by have:=hown b e;have:=hS b hb;omega)) _ _ ha
 refine⟨vs ++ xs,by simp[h1,q1],?_,fun i k u hk hu=>?_⟩
 ·have e:Qag (vs ++ xs)=Qag vs ++ Qag xs:=by unfold Qag;simp
  rw[e,xB];exact ho
 ·by_cases hi:i<ts.length
  ·rw[yB hi]at hk;rw[yB (by rw[h1];exact hi)]at hu;exact hm _ _ (h3 i k u hk hu)
  ·rw[xX (by omega)]at hk;rw[xX (by omega),h1]at hu;exact hm _ _ (q3 _ k u hk hu)
def NdL(S:Nat->Prop)(t:Tr)(v:TV)(w:World)(l i:Value)(wr:World):Prop:=∃ j:Nat,i = .int .i64 (j:Int)/\j<=t.kids.length/\NR S (w.heap.size+1) wr l (t :: Qga (t.kids.take j))/\wr.heap[w.heap.size]? = some (trO v)/\Below w.heap.size w wr
theorem Zd2(N:Nat):∀ (S:Nat->Prop) (t:Tr) (v:TV) (w:World),Qai t<=N->N<=2000000->(∀ b,S b->b<w.heap.size)->TrAt S w t v ->
  Calls prog 17 #[.agg #[.int .i64 v.kind,.string v.text,.slice v.la v.ll v.lc,.slice v.ka v.kl v.kc]] w fun e w'=>∃ A c,e = .returned (.slice A (Qai t) c)/\NR S w.heap.size w' (.slice A (Qai t) c) (Qim t)/\Below w.heap.size w w':=by
 induction N with
 | zero=>intro S t v w h;have:=Qa5 t;omega
 | succ N ih =>
  intro S t v w hz hN hS ht;obtain⟨it,hit,ht0,ht1,ht2⟩:=info_parts Qcm;obtain⟨vk,vx,vla,vll,vlc,vka,vkl,vkc⟩:=v;obtain⟨u1,u2,u3,u4⟩:=ht.kl;simp only at u1 u2 u3 u4;subst u1;have hb0:=Qe0 w (trO ⟨vk,vx,vla,vll,vlc,vka,t.kids.length,vkc⟩) (trO ⟨vk,vx,vla,vll,vlc,vka,t.kids.length,vkc⟩);obtain⟨bx0,bx1⟩:=Qdv w (trO ⟨vk,vx,vla,vll,vlc,vka,t.kids.length,vkc⟩) (trO ⟨vk,vx,vla,vll,vlc,vka,t.kids.length,vkc⟩);have HST:=hQ (show NdL S t ⟨vk,vx,vla,vll,vlc,vka,t.kids.length,vkc⟩ w (.slice (some ⟨w.heap.size+1,0,none⟩) 1 1) (.int .i64 0) ((w.alloc (trO ⟨vk,vx,vla,vll,vlc,vka,t.kids.length,vkc⟩)).alloc (trO ⟨vk,vx,vla,vll,vlc,vka,t.kids.length,vkc⟩)) from⟨0,rfl,xZ _,NR.one (ht.keep hb0) bx1 (xA _),bx0,hb0⟩);have HZ:=hQ hz;have HN:=hQ hN;have HS:=hQ hS;have HT:=hQ ht;have IH:=hQ ih;clear hb0 bx0 bx1 hz hN hS ht ih u2 u3 u4;go_enter func17,ntmps17;go_wp2_with fail
  go_loopw [3,4] (fun l i wr=>NdL S t ⟨vk,vx,vla,vll,vlc,vka,t.kids.length,vkc⟩ w l i wr) (fun _ i _=>t.kids.length-(intOf i).toNat)
  case atStart=>exact HST.out
  case round =>
   obtain⟨j,rfl,hj,hnr,hx,hb⟩:=hrel;obtain⟨us,hus⟩:∃ us,us=t :: Qga (t.kids.take j):=⟨_,rfl⟩;rw[<-hus]at hnr;have HUS:=hQ hus;obtain⟨LA,lc,hl⟩:=hnr.slice;subst hl;have HNR:=hQ hnr;have HX:=hQ hx;have HB:=hQ hb;clear hus hnr hx hb;have k3:wr.cell? ⟨w.heap.size,3,none⟩=some (.slice vka t.kids.length vkc):=Qab HX.out 3 _ rfl;have kl:=xK wr _ k3
   by_cases hlt:j<t.kids.length
   ·obtain⟨k,hk⟩:∃ k,t.kids[j]? = some k:=⟨_,xF hlt⟩;obtain⟨g,o,hka⟩:∃ b off,vka=some ⟨b,off,none⟩:=HT.out.addr.resolve_left (by omega);subst hka;obtain⟨kv,c0,c1,c2,c3,hkv⟩:=(HT.out.keep HB.out).at rfl hk;have cl:=xK wr _ c0;have j0:(0:Int)<=(j:Int):=by omega
    have j1:(j:Int)<(t.kids.length:Int):=by omega
    have hsk:Qai k<Qai t:=by have h1:=Zii t.kids k (yA hk);have h2:=Qa5 t;omega
    have j2:(j:Int)+1<=2000001:=by have h1:=Qa0 t.kids;have h2:=Qa5 t;have:=HZ.out;have:=HN.out;omega
    have HC:=hQ (IH.out S k kv wr (by have:=HZ.out;omega) (by have:=HN.out;omega) (fun b hb=>xE (HS.out b hb) HB.out.size) hkv);have HK:=hQ hk
    have HSUM:=hQ (show us.length+Qai k<=2000000 from by
     have h1:(t :: Qga (t.kids.take (j+1))).length=us.length+Qai k:=by
      rw[HUS.out,List.take_add_one,hk,Option.toList_some,Qj5,xD,xD,xB,Qfo];omega
     rw[xD,Qly]at h1;have h2:=Zd1 t.kids (j+1);have h3:=Qa5 t;have:=HZ.out
     have:=HN.out
     omega)
    have HPOS:=hQ (show 0<Qai k from by have:=Qa5 k;omega);clear hk hkv hsk;go_wp2_with fail;go_at_call 17;refine HC.out.mono ?_;rintro e w5⟨A5,c5,rfl,hn5,hb5⟩;obtain⟨vs,h1,h2,h3⟩:=HNR.out;obtain⟨xs,q1,q2,q3⟩:=hn5;rw[Qfo]at q2;obtain⟨g5,cap5,hv5,hg5,hl5⟩:=World.ownsRow.form q2 HPOS.out;injection hv5 with hv1 hv2 hv3;subst hv1 hv3;have H1:=hQ h1;have H2:=hQ ((Keeps.of_below (P:=fun _=>none) hb5).row h2 fun _ _=>.inl rfl);have H3:=hQ (show ∀ (i:Nat) (k:Tr) (u:TV),us[i]? = some k->vs[i]? = some u->TrAt S w5 k u from fun i k u hk hu=>(h3 i k u hk hu).keep hb5);have Q1:=hQ q1;have Q3:=hQ q3;have HXL:=hQ (show(Qag xs).length=Qai k*4 from by rw[Qd6,q1,Qfo]);have HNW:=hQ (q2.cells (g:=g5) rfl);have HB5:=hQ hb5;have HM1:=hQ (show us.length+Qai k<=maxLen from by have:=HSUM.out;unfold maxLen;omega);have HM2:=hQ (show(us.length+Qai k)*72<=140737488355328 from by have:=HSUM.out;omega);have HSZ:=hQ (show w.heap.size+1<=w5.heap.size from xQ (Qaa HX.out) hb5.size);clear h1 h2 h3 q1 q2 q3 hb5 hv2;go_wp2_with (at_builtin;refine Qep _ rfl _ _ 22 rfl (w.heap.size+1) 25 it _ 4 72 underlying22 hit ht0 ht1 ht2 rfl (by decide) _ us.length (Qag vs) rfl H2.out ⟨g5,0,none⟩ (Qai k) c5 (Qag xs) rfl HXL.out HNW.out (Zmb xs) HPOS.out HM1.out HM2.out HSZ.out ?_;intro g6 c6 w6 hown6 hk6 hg6 hlt6;have HO6:=hQ hown6;have HK6:=hQ hk6;clear hown6 hk6 hg6 hlt6)
    go_roundw
    case measure=>first | (simp[intOf];done) | (simp[intOf];omega)
    case rel =>
     have h:=NR.join H1.out H2.out H3.out (us:=Qim k) Q1.out Q3.out (fun b hb=>Nat.lt_succ_of_lt (HS.out b hb)) (by rw[Qfo];exact HO6.out) HK6.out;rw[Qfo]at h
     refine⟨j+1,rfl,by omega,?_,?_,?_⟩
     ·rw[List.take_add_one,HK.out,Option.toList_some,Qj5,<-xV,<-HUS.out];exact h
     ·exact(HK6.out.block _ (xE (Qaa HX.out) HB5.out.size) (Qch fun e=>by have:=(World.ownsRow.lt H2.out _ e).1;omega)).trans ((HB5.out.block _ (Qaa HX.out)).trans HX.out)
     ·exact HB.out.trans ((HB5.out.mono HB.out.size).trans (HK6.out.below (xQ HB.out.size HB5.out.size) fun b hl=>Qch fun e=>by have:=(World.ownsRow.lt H2.out b e).1;omega))
   ·obtain rfl:j=t.kids.length:=by omega
    have HE:=hQ (show us=Qim t from by rw[HUS.out,Qsy,List.take_length]);have HL:=hQ (show us.length=Qai t from by rw[HE.out,Qfo]);go_wp2_with fail;go_ret;exact⟨LA,lc,by rw[<-HL.out];rfl,by have h:=HNR.out.mono (Nat.le_succ _);rw[HE.out,Qfo]at h;exact h,HB.out⟩
end Go.Proofs.YtfjpemdejoejbaaGreat
