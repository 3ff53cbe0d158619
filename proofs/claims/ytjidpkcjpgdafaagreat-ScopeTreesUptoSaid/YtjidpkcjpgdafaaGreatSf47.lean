/- Part 47 -/
import Derived.Test.YtjidpkcjpgdafaaGreatSf45
import Derived.Test.YtjidpkcjpgdafaaGreatSf46
set_option maxRecDepth 100000
set_option maxHeartbeats 4000000
namespace Go.Proofs.YtjidpkcjpgdafaaGreat
open Go.RowKit
theorem Qu7 {t:Tr} (hz:Qam t≤1000) (h:Qau t=true) (hk:t.kind=5∨t.kind=6∨t.kind=7∨t.kind=9∨t.kind=12):t.kids = []:=by
 have h1:=(Qe4 hz h).1
 have h2:(t.kids.length:Int)=0:=by
  rcases hk with h | h | h | h | h
  all_goals
   rw [h] at h1
   unfold Qan Qax at h1
   simp only [show ¬ ((5:Int)=1) from by decide,show ¬ ((5:Int)=2) from by decide,show ¬ ((5:Int)=3) from by decide,show ¬ ((5:Int)=4) from by decide,Int.reduceEq,if_true,if_false] at h1
   split at h1
   ·assumption
   ·omega
 exact List.eq_nil_of_length_eq_zero (by omega)
theorem Qxa {t k:Tr} {j:Nat} (hz:Qam t≤1000) (h:Qau t=true) (h4:4≤t.kind) (h9:t.kind≤9) (hk:t.kids[j]? = some k):4≤k.kind∧k.kind≤9:=by
 by_cases hn:t.kind=5∨t.kind=6∨t.kind=7∨t.kind=9∨t.kind=12
 ·rw [Qu7 hz h hn] at hk
  simp at hk
 ·have h1:=Qqr hz h hk
  unfold Qe5 at h1
  rw [xN (by omega),xN (by omega),xO (by omega)] at h1
  unfold Qd9 at h1
  simp at h1
  omega
theorem Qjg:(r:List Int)→(u v:Tr)→(p:List Int)→(st:List Bnd)→Qau u=true→Qam u≤1000→4≤u.kind→u.kind≤9→Qay u r=some v→Qbj u p r st=st
 | [],_,_,_,_,_,_,_,_,_=>by rw [Qbj]
 | i :: r,u,v,p,st,hs,hz,h4,h9,hf=>by
  unfold Qay at hf
  split at hf
  ·rename_i hk
   obtain ⟨_,_,h3⟩:=Qf2 hk
   have hsz:=Qe9 h3
   obtain ⟨k4,k9⟩:=Qxa hz hs h4 h9 h3
   rw [Qbj]
   have he:Qbw u.kind u.text u.kids p i = []:=by unfold Qbw;rw [xN (by omega),xN (by omega)]
   rw [he,List.append_nil]
   exact Qjg r _ v _ st ((Qe4 hz hs).2 _ (yA h3)) (by omega) k4 k9 hf
  ·cases hf
theorem Qjh:(r:List Int)→(t u:Tr)→(p:List Int)→(st:List Bnd)→(i:Int)→Qay t r=some u→Qbj t p (r ++ [i]) st=Qbj t p r st ++ Qbw u.kind u.text u.kids (p ++ r) i
 | [],t,u,p,st,i,h=>by
  rw [Qay] at h
  injection h with h
  subst h
  rw [xU,Qbj,Qbj,Qbj,List.append_nil]
 | j :: r,t,u,p,st,i,h=>by
  unfold Qay at h
  split at h
  ·rw [xV,Qbj,Qbj,Qjh r _ u _ _ i h,xT p [j] r]
   rfl
  ·cases h
theorem Qu8 {t u:Tr} {zs:List Int} (h:Qay t zs=some u) (k:Nat):∃ v,Qay t (zs.take k)=some v:=by
 cases hv:Qay t (zs.take k) with
 | some v=>exact ⟨v,rfl⟩
 | none =>
  have key:∀ (a b:List Int) (t:Tr),Qay t a=none→Qay t (a ++ b)=none:=by
   intro a
   induction a with
   | nil=>intro b t h;rw [Qay] at h;cases h
   | cons i r ih =>
    intro b t h
    unfold Qay at h
    rw [xV,Qay]
    split at h
    ·rename_i hk
     rw [xO hk]
     exact ih b _ h
    ·rename_i hk
     rw [xN hk]
  have:=key (zs.take k) (zs.drop k) t hv
  rw [List.take_append_drop,h] at this
  cases this
theorem Qqu (ks:List Tr):(m:Nat)→(Qda ks m).reverse.map (·.2)=Qjp m
 | 0=>by rw [Qda];rfl
 | m+1=>by
  rw [Qda,List.reverse_cons,List.map_append,Qqu ks m,Qly]
  rfl
theorem Qqv {t w:Tr} {zs:List Int} (hf:Qd0 t=true) (hz:Qam t≤1000) (h0:zs[0]? = some ((t.kids.length:Int)-1)) (hw:Qay t zs=some w):(k:Nat)→0<k→k≤zs.length→(Qbj t [] (zs.take k) []).reverse.map (·.2)=Qf9 t zs k ++ Qjp (t.kids.length-2)
 | 0,h,_=>absurd h (Nat.lt_irrefl 0)
 | k+1,_,hk=>by
  obtain ⟨h2,hs⟩:=Qex hf
  obtain ⟨i,hi⟩:∃ i,zs[k]? = some i:=⟨_,xF (by omega)⟩
  obtain ⟨u,hu⟩:=Qu8 hw k
  have ht:zs.take (k+1)=zs.take k ++ [i]:=by rw [List.take_add_one,hi];rfl
  rw [ht,Qjh _ t u [] [] i hu,xU,List.reverse_append,List.map_append,Qf9]
  have hla:Qmx t zs k=(decide (u.kind=20) && decide (i=1)):=by
   unfold Qmx
   rw [hu,hi,Option.getD_some]
   simp
  rcases Nat.eq_zero_or_pos k with rfl | hkp
  ·rw [List.take_zero,Qay] at hu
   injection hu with hu
   subst hu
   rw [hi] at h0
   injection h0 with h0
   subst h0
   rw [hla,h2]
   have he:Qbw 2 t.text t.kids [] ((t.kids.length:Int)-1)=Qdb t.kids:=by unfold Qbw;rw [xN (by omega),xO ⟨rfl,rfl⟩]
   rw [List.take_zero,he,Qbj]
   unfold Qdb
   rw [Qqu]
   simp [Qf9]
  ·have hne:zs.take k≠[]:=fun e=>by
    have:=congrArg List.length e
    rw [List.length_take,xG] at this
    omega
   have hk2:=(Qkt _ t u hs hz (by omega) hu).2.2.2 hne
   rw [Qqv hf hz h0 hw k hkp (by omega),hla]
   unfold Qbw
   by_cases hc:u.kind=20∧i=1
   ·rw [xO hc,xS hc.1,xS hc.2]
    rfl
   ·rw [xN hc,xN (fun h=>hk2 h.1)]
    have:(decide (u.kind=20) && decide (i=1))=false:=by
     rw [Bool.and_eq_false_iff,decide_eq_false_iff_not,decide_eq_false_iff_not]
     exact Decidable.not_and_iff_or_not.1 hc
    rw [this]
    rfl
theorem Qjx {t:Tr} (hf:Qd0 t=true) (hz:Qam t≤1000) (zs:List Int):Qdd t zs=(Qas t zs).reverse.map (·.2):=by
 obtain ⟨h2,hs⟩:=Qex hf
 cases hw:Qay t zs with
 | none =>
  have hA:Qas t zs = []:=by
   unfold Qas
   rw [xN (fun h=>by
    obtain ⟨u,hu⟩:=(Qfd zs t 0).1 h.2
    rw [hw] at hu
    cases hu)]
  rw [hA]
  unfold Qdd
  rw [hw,xN (by simp)]
  rfl
 | some w =>
  have hn:=(Qfd zs t 0).2 ⟨w,hw⟩
  have hA:Qas t zs=Qbj t [] zs []:=by
   unfold Qas
   rw [xO ⟨hf,hn⟩]
  rw [hA]
  unfold Qdd
  rw [hw]
  by_cases h0:zs[0]? = some ((t.kids.length:Int)-1)
  ·rw [xO ⟨rfl,h0⟩]
   have:=Qqv hf hz h0 hw zs.length (xP.1 h0).1 (xA _)
   rw [List.take_length] at this
   exact this.symm
  ·rw [xN (fun h=>h0 h.2)]
   cases zs with
   | nil=>rw [Qbj];rfl
   | cons z r =>
    have hzn:z≠(t.kids.length:Int)-1:=fun e=>h0 (by rw [e];rfl)
    unfold Qay at hw
    split at hw
    ·rename_i hk
     obtain ⟨hk0,hkl,h3⟩:=Qf2 hk
     have hsz:=Qe9 h3
     have h1:=Qqr hz hs h3
     unfold Qe5 at h1
     rw [xN (by omega),xO h2,xN (by omega)] at h1
     have hkk:4≤(Qfm t z).kind∧(Qfm t z).kind≤9:=by
      split at h1
      ·unfold Qd9 at h1
       simp at h1
       omega
      ·simp at h1
       omega
     rw [Qbj]
     have he:Qbw t.kind t.text t.kids [] z = []:=by unfold Qbw;rw [xN (by omega),xN (fun h=>hzn h.2)]
     rw [he,List.append_nil,Qjg r _ w _ [] ((Qe4 hz hs).2 _ (yA h3)) (by omega) hkk.1 hkk.2 hw]
     rfl
    ·cases hw
def Qed (t:Tr) (q:List Int):ByteArray:=((Qay t q).getD Qik).text
theorem Qhl {t:Tr} (hf:Qd0 t=true) (hz:Qam t≤1000) (zs:List Int):∀ b∈Qas t zs,Qed t b.2=b.1:=by
 intro b hb
 obtain ⟨h2,hs⟩:=Qex hf
 unfold Qas at hb
 split at hb
 ·rename_i hc
  obtain ⟨w,hw⟩:=(Qfd zs t 0).1 hc.2
  obtain ⟨k,k1,k2,_⟩:=Qie hs hz h2 zs t w [] [] (by rw [Qay]) hw (fun b hb=>by simp at hb) b hb
  unfold Qed
  rw [k1]
  exact k2
 ·simp at hb
theorem Qqw {α β:Type} (f:α→β) (p:α→Bool) (q:β→Bool):(l:List α)→(∀ b∈l,p b=q (f b))→(l.find? p).map f=(l.map f).find? q
 | [],_=>rfl
 | a :: r,h=>by
  rw [List.find?_cons,List.map_cons,List.find?_cons,←h a (List.mem_cons_self ..)]
  cases p a
  ·exact Qqw f p q r fun b hb=>h b (List.mem_cons_of_mem _ hb)
  ·rfl
theorem Qzb {t:Tr} (hf:Qd0 t=true) (hz:Qam t≤1000) (zs:List Int) (x:ByteArray):Qcc (Qas t zs) x=(Qdd t zs).find? fun q=>decide (Qed t q=x):=by
 rw [Qjx hf hz]
 unfold Qcc
 exact Qqw _ _ _ _ fun b hb=>by rw [Qhl hf hz zs b (List.mem_reverse.1 hb)]
theorem vis_q {t:Tr} (hf:Qd0 t=true) (hz:Qam t≤1000) (zs:List Int):Qeq ((Qdd t zs).map (Qed t))=Qqn t zs:=by
 unfold Qqn
 refine Qua _ _ (Qiv _) (Qiv _) fun x=>?_
 rw [Qlu,Qlu,Qjx hf hz,List.map_map,List.mem_map,List.mem_map]
 constructor
 ·rintro ⟨b,hb,rfl⟩
  exact ⟨b,List.mem_reverse.1 hb,(Qhl hf hz zs b (List.mem_reverse.1 hb)).symm⟩
 ·rintro ⟨b,hb,rfl⟩
  exact ⟨b,List.mem_reverse.2 hb,Qhl hf hz zs b hb⟩
theorem Qi4 {t:Tr} (hf:Qd0 t=false) (zs:List Int):Qas t zs = []:=by
 unfold Qas
 rw [xN (fun h=>by rw [hf] at h;cases h.1)]
def Qge (t:Tr) (p:List Int):Option Vrb:=match Qay t p with
 | some u=>if u.kind=12 then some (p,Qcc (Qas t p) u.text) else none
 | none=>none
mutual
theorem Qqx:(u:Tr)→(p:List Int)→(st:List Bnd)→(g:List Int→Option Vrb)→Qau u=true→Qam u≤1000→(∀ r v,Qay u r=some v→g (p ++ r)=if v.kind=12 then some (p ++ r,Qcc (Qbj u p r st) v.text) else none)→Qh9 u p st=(Qes u p).filterMap g
 | .mk k x l ks,p,st,g,hs,hz,hg=>by
  have h0:=hg [] (.mk k x l ks) (by rw [Qay])
  rw [List.append_nil,Qbj] at h0
  rw [Qh9,Qes,List.filterMap_cons,h0]
  by_cases hk:k=12
  ·have hn:ks = []:=Qu7 hz hs (by show k=5∨k=6∨k=7∨k=9∨k=12;omega)
   subst hn
   rw [xO hk,xO (show (Tr.mk k x l []).kind=12 from hk),Qcn]
   rfl
  ·rw [xN hk,xN (show ¬ (Tr.mk k x l ks).kind=12 from hk)]
   exact Qn9 (.mk k x l ks) ks 0 p st g hs hz rfl hg
theorem Qn9:(u:Tr)→(l:List Tr)→(i:Nat)→(p:List Int)→(st:List Bnd)→(g:List Int→Option Vrb)→Qau u=true→Qam u≤1000→u.kids.drop i=l→(∀ r v,Qay u r=some v→g (p ++ r)=if v.kind=12 then some (p ++ r,Qcc (Qbj u p r st) v.text) else none)→Qgd u.kind u.text u.kids l i p st=(Qcn l i p).filterMap g
 | _,[],_,_,_,_,_,_,_,_=>by rw [Qgd,Qcn];rfl
 | u,a :: s,i,p,st,g,hs,hz,hd,hg=>by
  have ha:u.kids[i]? = some a:=by
   have:=congrArg (fun l=>l[0]?) hd
   simpa [List.getElem?_drop] using this
  obtain ⟨k1,k2⟩:=Qy9 ha
  have hsz:=Qe9 ha
  rw [Qgd,Qcn,List.filterMap_append]
  rw [Qqx a (p ++ [(i:Int)]) (st ++ Qbw u.kind u.text u.kids p i) g ((Qe4 hz hs).2 a (yA ha)) (by omega) fun r v hv=>by
   have h:=hg ((i:Int) :: r) v (by rw [Qay,xO k1,k2];exact hv)
   rw [Qbj,k2] at h
   rw [xT]
   exact h]
  rw [Qn9 u s (i+1) p st g hs hz (by rw [←List.drop_drop,hd];rfl) hg]
end
theorem Qz5 {t:Tr} (hf:Qd0 t=true) (hz:Qam t≤1000):Qgs t=(Qes t []).filterMap (Qge t):=by
 unfold Qgs
 rw [xO hf]
 refine Qqx t [] [] (Qge t) (Qex hf).2 hz fun r v hv=>?_
 rw [xU]
 unfold Qge Qas
 rw [hv,xO ⟨hf,(Qfd r t 0).2 ⟨v,hv⟩⟩]
end Go.Proofs.YtjidpkcjpgdafaaGreat
