/- Part 53 -/
import Derived.Test.YtjidpkcjpgdafaaGreatSd52
set_option maxRecDepth 100000
set_option maxHeartbeats 4000000
namespace Go.Proofs.YtjidpkcjpgdafaaGreat
open Go.RowKit
theorem Zaj {t:Tr} (hz:Qak t≤1000) (h:Qao t=true) (hk:t.kind=5∨t.kind=6∨t.kind=7∨t.kind=9∨t.kind=12):t.kids = []:=by
 have h1:=(Qfp hz h).1
 have h2:(t.kids.length:Int)=0:=by
  rcases hk with h | h | h | h | h
  all_goals
   rw [h] at h1
   unfold Qat Qbb at h1
   simp only [show ¬ ((5:Int)=1) from by decide,show ¬ ((5:Int)=2) from by decide,show ¬ ((5:Int)=3) from by decide,show ¬ ((5:Int)=4) from by decide,Int.reduceEq,if_true,if_false] at h1
   split at h1
   ·assumption
   ·omega
 exact List.eq_nil_of_length_eq_zero (by omega)
theorem Zdi {t k:Tr} {j:Nat} (hz:Qak t≤1000) (h:Qao t=true) (h4:4≤t.kind) (h9:t.kind≤9) (hk:t.kids[j]? = some k):4≤k.kind∧k.kind≤9:=by
 by_cases hn:t.kind=5∨t.kind=6∨t.kind=7∨t.kind=9∨t.kind=12
 ·rw [Zaj hz h hn] at hk
  simp at hk
 ·have h1:=Qt1 hz h hk
  unfold Qgq at h1
  rw [xN (by omega),xN (by omega),xO (by omega)] at h1
  unfold Qfc at h1
  simp at h1
  omega
theorem Qle:(r:List Int)→(u v:Tr)→(p:List Int)→(st:List Bnd)→Qao u=true→Qak u≤1000→4≤u.kind→u.kind≤9→Qbl u r=some v→Qb7 u p r st=st
 | [],_,_,_,_,_,_,_,_,_=>by rw [Qb7]
 | i :: r,u,v,p,st,hs,hz,h4,h9,hf=>by
  unfold Qbl at hf
  split at hf
  ·rename_i hk
   obtain ⟨_,_,h3⟩:=Qhr hk
   have hsz:=Qbc h3
   obtain ⟨k4,k9⟩:=Zdi hz hs h4 h9 h3
   rw [Qb7]
   have he:Qcs u.kind u.text u.kids p i = []:=by unfold Qcs;rw [xN (by omega),xN (by omega)]
   rw [he,List.append_nil]
   exact Qle r _ v _ st ((Qfp hz hs).2 _ (yA h3)) (by omega) k4 k9 hf
  ·cases hf
theorem Qlf:(r:List Int)→(t u:Tr)→(p:List Int)→(st:List Bnd)→(i:Int)→Qbl t r=some u→Qb7 t p (r ++ [i]) st=Qb7 t p r st ++ Qcs u.kind u.text u.kids (p ++ r) i
 | [],t,u,p,st,i,h=>by
  rw [Qbl] at h
  injection h with h
  subst h
  rw [xU,Qb7,Qb7,Qb7,List.append_nil]
 | j :: r,t,u,p,st,i,h=>by
  unfold Qbl at h
  split at h
  ·rw [xV,Qb7,Qb7,Qlf r _ u _ _ i h,xT p [j] r]
   rfl
  ·cases h
theorem Zak {t u:Tr} {zs:List Int} (h:Qbl t zs=some u) (k:Nat):∃ v,Qbl t (zs.take k)=some v:=by
 cases hv:Qbl t (zs.take k) with
 | some v=>exact ⟨v,rfl⟩
 | none =>
  have key:∀ (a b:List Int) (t:Tr),Qbl t a=none→Qbl t (a ++ b)=none:=by
   intro a
   induction a with
   | nil=>intro b t h;rw [Qbl] at h;cases h
   | cons i r ih =>
    intro b t h
    unfold Qbl at h
    rw [xV,Qbl]
    split at h
    ·rename_i hk
     rw [xO hk]
     exact ih b _ h
    ·rename_i hk
     rw [xN hk]
  have:=key (zs.take k) (zs.drop k) t hv
  rw [List.take_append_drop,h] at this
  cases this
theorem Qt5 (ks:List Tr):(m:Nat)→(Qef ks m).reverse.map (·.2)=Qls m
 | 0=>by rw [Qef];rfl
 | m+1=>by
  rw [Qef,List.reverse_cons,List.map_append,Qt5 ks m,Qob]
  rfl
theorem Qt6 {t w:Tr} {zs:List Int} (hf:Qfd t=true) (hz:Qak t≤1000) (h0:zs[0]? = some ((t.kids.length:Int)-1)) (hw:Qbl t zs=some w):(k:Nat)→0<k→k≤zs.length→(Qb7 t [] (zs.take k) []).reverse.map (·.2)=Qhz t zs k ++ Qls (t.kids.length-2)
 | 0,h,_=>absurd h (Nat.lt_irrefl 0)
 | k+1,_,hk=>by
  obtain ⟨h2,hs⟩:=Qgb hf
  obtain ⟨i,hi⟩:∃ i,zs[k]? = some i:=⟨_,xF (by omega)⟩
  obtain ⟨u,hu⟩:=Zak hw k
  have ht:zs.take (k+1)=zs.take k ++ [i]:=by rw [List.take_add_one,hi];rfl
  rw [ht,Qlf _ t u [] [] i hu,xU,List.reverse_append,List.map_append,Qhz]
  have hla:Qpk t zs k=(decide (u.kind=20) && decide (i=1)):=by
   unfold Qpk
   rw [hu,hi,Option.getD_some]
   simp
  rcases Nat.eq_zero_or_pos k with rfl | hkp
  ·rw [List.take_zero,Qbl] at hu
   injection hu with hu
   subst hu
   rw [hi] at h0
   injection h0 with h0
   subst h0
   rw [hla,h2]
   have he:Qcs 2 t.text t.kids [] ((t.kids.length:Int)-1)=Qeg t.kids:=by unfold Qcs;rw [xN (by omega),xO ⟨rfl,rfl⟩]
   rw [List.take_zero,he,Qb7]
   unfold Qeg
   rw [Qt5]
   simp [Qhz]
  ·have hne:zs.take k≠[]:=fun e=>by
    have:=congrArg List.length e
    rw [List.length_take,xG] at this
    omega
   have hk2:=(Qmz _ t u hs hz (by omega) hu).2.2.2 hne
   rw [Qt6 hf hz h0 hw k hkp (by omega),hla]
   unfold Qcs
   by_cases hc:u.kind=20∧i=1
   ·rw [xO hc,xS hc.1,xS hc.2]
    rfl
   ·rw [xN hc,xN (fun h=>hk2 h.1)]
    have:(decide (u.kind=20) && decide (i=1))=false:=by
     rw [Bool.and_eq_false_iff,decide_eq_false_iff_not,decide_eq_false_iff_not]
     exact Decidable.not_and_iff_or_not.1 hc
    rw [this]
    rfl
theorem Qt7 {t:Tr} (hf:Qfd t=true) (hz:Qak t≤1000) (zs:List Int):Qe1 t zs=(Qbj t zs).reverse.map (·.2):=by
 obtain ⟨h2,hs⟩:=Qgb hf
 cases hw:Qbl t zs with
 | none =>
  have hA:Qbj t zs = []:=by
   unfold Qbj
   rw [xN (fun h=>by
    obtain ⟨u,hu⟩:=(Qgy zs t 0).1 h.2
    rw [hw] at hu
    cases hu)]
  rw [hA]
  unfold Qe1
  rw [hw,xN (by simp)]
  rfl
 | some w =>
  have hn:=(Qgy zs t 0).2 ⟨w,hw⟩
  have hA:Qbj t zs=Qb7 t [] zs []:=by
   unfold Qbj
   rw [xO ⟨hf,hn⟩]
  rw [hA]
  unfold Qe1
  rw [hw]
  by_cases h0:zs[0]? = some ((t.kids.length:Int)-1)
  ·rw [xO ⟨rfl,h0⟩]
   have:=Qt6 hf hz h0 hw zs.length (xP.1 h0).1 (xA _)
   rw [List.take_length] at this
   exact this.symm
  ·rw [xN (fun h=>h0 h.2)]
   cases zs with
   | nil=>rw [Qb7];rfl
   | cons z r =>
    have hzn:z≠(t.kids.length:Int)-1:=fun e=>h0 (by rw [e];rfl)
    unfold Qbl at hw
    split at hw
    ·rename_i hk
     obtain ⟨hk0,hkl,h3⟩:=Qhr hk
     have hsz:=Qbc h3
     have h1:=Qt1 hz hs h3
     unfold Qgq at h1
     rw [xN (by omega),xO h2,xN (by omega)] at h1
     have hkk:4≤(Qg5 t z).kind∧(Qg5 t z).kind≤9:=by
      split at h1
      ·unfold Qfc at h1
       simp at h1
       omega
      ·simp at h1
       omega
     rw [Qb7]
     have he:Qcs t.kind t.text t.kids [] z = []:=by unfold Qcs;rw [xN (by omega),xN (fun h=>hzn h.2)]
     rw [he,List.append_nil,Qle r _ w _ [] ((Qfp hz hs).2 _ (yA h3)) (by omega) hkk.1 hkk.2 hw]
     rfl
    ·cases hw
def Qi3 (t:Tr) (q:List Int):ByteArray:=((Qbl t q).getD Qkj).text
theorem Qsy {t:Tr} (hf:Qfd t=true) (hz:Qak t≤1000) (zs:List Int):∀ b∈Qbj t zs,Qi3 t b.2=b.1:=by
 intro b hb
 obtain ⟨h2,hs⟩:=Qgb hf
 unfold Qbj at hb
 split at hb
 ·rename_i hc
  obtain ⟨w,hw⟩:=(Qgy zs t 0).1 hc.2
  obtain ⟨k,k1,k2,_⟩:=Qj8 hs hz h2 zs t w [] [] (by rw [Qbl]) hw (fun b hb=>by simp at hb) b hb
  unfold Qi3
  rw [k1]
  exact k2
 ·simp at hb
theorem Qt8 {α β:Type} (f:α→β) (p:α→Bool) (q:β→Bool):(l:List α)→(∀ b∈l,p b=q (f b))→(l.find? p).map f=(l.map f).find? q
 | [],_=>rfl
 | a :: r,h=>by
  rw [List.find?_cons,List.map_cons,List.find?_cons,←h a (List.mem_cons_self ..)]
  cases p a
  ·exact Qt8 f p q r fun b hb=>h b (List.mem_cons_of_mem _ hb)
  ·rfl
theorem Zf0 {t:Tr} (hf:Qfd t=true) (hz:Qak t≤1000) (zs:List Int) (x:ByteArray):Qdn (Qbj t zs) x=(Qe1 t zs).find? fun q=>decide (Qi3 t q=x):=by
 rw [Qt7 hf hz]
 unfold Qdn
 exact Qt8 _ _ _ _ fun b hb=>by rw [Qsy hf hz zs b (List.mem_reverse.1 hb)]
theorem Qwk {t:Tr} (hf:Qfd t=false) (zs:List Int):Qbj t zs = []:=by
 unfold Qbj
 rw [xN (fun h=>by rw [hf] at h;cases h.1)]
def Qh3 (t:Tr) (p:List Int):Option Vrb:=match Qbl t p with
 | some u=>if u.kind=12 then some (p,Qdn (Qbj t p) u.text) else none
 | none=>none
mutual
theorem Qt9:(u:Tr)→(p:List Int)→(st:List Bnd)→(g:List Int→Option Vrb)→Qao u=true→Qak u≤1000→(∀ r v,Qbl u r=some v→g (p ++ r)=if v.kind=12 then some (p ++ r,Qdn (Qb7 u p r st) v.text) else none)→Qj2 u p st=(Qf5 u p).filterMap g
 | .mk k x l ks,p,st,g,hs,hz,hg=>by
  have h0:=hg [] (.mk k x l ks) (by rw [Qbl])
  rw [List.append_nil,Qb7] at h0
  rw [Qj2,Qf5,List.filterMap_cons,h0]
  by_cases hk:k=12
  ·have hn:ks = []:=Zaj hz hs (by show k=5∨k=6∨k=7∨k=9∨k=12;omega)
   subst hn
   rw [xO hk,xO (show (Tr.mk k x l []).kind=12 from hk),Qdq]
   rfl
  ·rw [xN hk,xN (show ¬ (Tr.mk k x l ks).kind=12 from hk)]
   exact Qq4 (.mk k x l ks) ks 0 p st g hs hz rfl hg
theorem Qq4:(u:Tr)→(l:List Tr)→(i:Nat)→(p:List Int)→(st:List Bnd)→(g:List Int→Option Vrb)→Qao u=true→Qak u≤1000→u.kids.drop i=l→(∀ r v,Qbl u r=some v→g (p ++ r)=if v.kind=12 then some (p ++ r,Qdn (Qb7 u p r st) v.text) else none)→Qh2 u.kind u.text u.kids l i p st=(Qdq l i p).filterMap g
 | _,[],_,_,_,_,_,_,_,_=>by rw [Qh2,Qdq];rfl
 | u,a :: s,i,p,st,g,hs,hz,hd,hg=>by
  have ha:u.kids[i]? = some a:=by
   have:=congrArg (fun l=>l[0]?) hd
   simpa [List.getElem?_drop] using this
  obtain ⟨k1,k2⟩:=Zfy ha
  have hsz:=Qbc ha
  rw [Qh2,Qdq,List.filterMap_append]
  rw [Qt9 a (p ++ [(i:Int)]) (st ++ Qcs u.kind u.text u.kids p i) g ((Qfp hz hs).2 a (yA ha)) (by omega) fun r v hv=>by
   have h:=hg ((i:Int) :: r) v (by rw [Qbl,xO k1,k2];exact hv)
   rw [Qb7,k2] at h
   rw [xT]
   exact h]
  rw [Qq4 u s (i+1) p st g hs hz (by rw [←List.drop_drop,hd];rfl) hg]
end
theorem Zg6 {t:Tr} (hf:Qfd t=true) (hz:Qak t≤1000):Qiv t=(Qf5 t []).filterMap (Qh3 t):=by
 unfold Qiv
 rw [xO hf]
 refine Qt9 t [] [] (Qh3 t) (Qgb hf).2 hz fun r v hv=>?_
 rw [xU]
 unfold Qh3 Qbj
 rw [hv,xO ⟨hf,(Qgy r t 0).2 ⟨v,hv⟩⟩]
end Go.Proofs.YtjidpkcjpgdafaaGreat
namespace Go.Proofs.YtjidpkcjpgdafaaGreat
open Go.RowKit Go.Shelf
theorem Zal {t:Tr} (hz:Qak t≤1000) (zs:List Int):∀ b∈Qbj t zs,b.2≠[]:=by
 intro b hb he
 unfold Qbj at hb
 split at hb
 ·rename_i hc
  obtain ⟨h2,hs⟩:=Qgb hc.1
  obtain ⟨w,hw⟩:=(Qgy zs t 0).1 hc.2
  obtain ⟨k,k1,_,k3⟩:=Qj8 hs hz h2 zs t w [] [] (by rw [Qbl]) hw (fun b hb=>by simp at hb) b hb
  rw [he,Qbl] at k1
  injection k1 with k1
  subst k1
  omega
 ·simp at hb
theorem Qq5 {t:Tr} (hz:Qak t≤1000) (zs:List Int):∀ b∈Qbj t zs,b.2.length≤1000:=by
 intro b hb
 unfold Qbj at hb
 split at hb
 ·rename_i hc
  obtain ⟨h2,hs⟩:=Qgb hc.1
  obtain ⟨w,hw⟩:=(Qgy zs t 0).1 hc.2
  obtain ⟨k,k1,_,_⟩:=Qj8 hs hz h2 zs t w [] [] (by rw [Qbl]) hw (fun b hb=>by simp at hb) b hb
  have:=Qt4 _ _ _ k1
  omega
 ·simp at hb
theorem Qq6 {t:Tr} (hf:Qfd t=true) (hz:Qak t≤1000) (zs:List Int):(∀ q∈Qe1 t zs,q≠[]∧q.length≤1000):=by
 intro q hq
 rw [Qt7 hf hz] at hq
 obtain ⟨b,hb,rfl⟩:=List.mem_map.1 hq
 exact ⟨Zal hz zs b (List.mem_reverse.1 hb),Qq5 hz zs b (List.mem_reverse.1 hb)⟩
theorem Qsz (t:Tr) (hz:Qak t≤1000) (zs:List Int) (hl:zs.length≤10000):(Qe1 t zs).length≤11000:=by
 unfold Qe1
 split
 ·rw [xB,Qq2]
  have h1:=Qj9 t zs zs.length
  have h2:=Qa5 t.kids
  have h3:=Qa0 t
  omega
 ·simp
theorem Qod (S:Nat→Prop) (t:Tr) (v:TV) (PA:Option Addr) (c:Nat) (zs:List Int) (x:ByteArray) (w:World) (ht:TrAt S w t v) (hw:Qdh t=true) (hz:Qak t≤1000) (hA:IntsAt w PA zs) (hzl:zs.length≤10000) (hc:zs.length≤c) :
  Calls Tryz.prog 34 #[.agg #[.int .i64 v.kind,.string v.text,.slice v.la v.ll v.lc,.slice v.ka v.kl v.kc],.slice PA zs.length c,.string x] w (Qo7 (Qdn (Qbj t zs) x) w):=by
 obtain ⟨ii,hii,iz0,iz1,iz2⟩:=info_parts Qmn
 have hb0:=Qal w (trO v)
 have HT0:=hQ ht
 have HT:=hQ (ht.keep hb0)
 have HX:=hQ (xH w (trO v))
 have HB0:=hQ hb0
 have HZ:=hQ hz
 have HW:=hQ hw
 have HA:=hQ (hA.keep hb0)
 have HZL:=hQ hzl
 have HC:=hQ hc
 obtain ⟨vk,vx,vla,vll,vlc,vka,vkl,vkc⟩:=v
 clear ht hb0 hz hw hA hzl hc
 cases hf:Qfd t
 ·have HN:=hQ (show Qdn (Qbj t zs) x=none from by rw [Qwk hf];rfl)
  have HF:=hQ hf
  clear hf
  rw [HN.out]
  go_enter Tryz.func34,Tryz.ntmps34
  go_wp2_with (go_at_call 68;refine (Qly _ t _ _ HT.out HW.out HZ.out).mono ?_;rw [HF.out];rintro e w1 ⟨rfl,hb⟩;have HB1:=hQ (HB0.out.trans (hb.mono HB0.out.size));clear hb)
  go_ret2
  exact ⟨HB1.out,rfl⟩
 ·have HF:=hQ hf
  have HIQ:=hQ (Zf0 hf HZ.out zs x)
  have HPQ:=hQ (Qq6 hf HZ.out zs)
  clear hf
  go_enter Tryz.func34,Tryz.ntmps34
  go_wp2_with fail
  go_at_call 68
  refine (Qly _ t ⟨vk,vx,vla,vll,vlc,vka,vkl,vkc⟩ _ HT.out HW.out HZ.out).mono ?_
  rw [HF.out]
  rintro e w1 ⟨rfl,hb1⟩
  have HB1:=hQ (HB0.out.trans (hb1.mono HB0.out.size))
  have HX1:=hQ ((hb1.block _ (Qaa HX.out)).trans HX.out)
  have HT1:=hQ (HT.out.keep hb1)
  have HA1:=hQ (HA.out.keep hb1)
  have b0:w1.cell? ⟨w.heap.size,0,none⟩=some (.int .i64 vk):=Qab HX1.out 0 _ rfl
  have b1:w1.cell? ⟨w.heap.size,1,none⟩=some (.string vx):=Qab HX1.out 1 _ rfl
  have b2:w1.cell? ⟨w.heap.size,2,none⟩=some (.slice vla vll vlc):=Qab HX1.out 2 _ rfl
  have b3:w1.cell? ⟨w.heap.size,3,none⟩=some (.slice vka vkl vkc):=Qab HX1.out 3 _ rfl
  clear hb1
  go_wp2_with fail
  go_at_call 69
  refine (Qwj _ t ⟨vk,vx,vla,vll,vlc,vka,vkl,vkc⟩ PA c zs w1 HT1.out HZ.out HA1.out HZL.out HC.out).mono ?_
  rintro e w2 ⟨r,rfl,hq,hb2⟩
  obtain ⟨LA,lc,rfl⟩:=hq.slice
  obtain ⟨ps,hps⟩:∃ ps,ps=Qe1 t zs:=⟨_,rfl⟩
  have hpl:=Qsz t HZ.out zs HZL.out
  rw [←hps] at hq hpl HIQ HPQ ⊢
  have HQ:=hQ hq
  have HB2:=hQ (HB1.out.trans (hb2.mono HB1.out.size))
  have HW2:=hQ hb2.size
  have HX2:=hQ ((hb2.block _ (Qaa HX1.out)).trans HX1.out)
  have hpi:(ps.length:Int)≤11000:=by omega
  clear hq hps hpl hb2 b0 b1 b2 b3
  go_wp2_with fail
  go_loopw [9] (fun i wr=>∃ k:Nat,i = .int .i64 (k:Int)∧k≤ps.length∧Qdn (Qbj t zs) x=(ps.drop k).find? (fun q=>decide (Qi3 t q=x))∧Below w2.heap.size w2 wr) (fun i _=>ps.length-(intOf i).toNat)
  case atStart=>exact ⟨0,rfl,xZ _,HIQ.out,xC _ _⟩
  case round =>
   obtain ⟨k,rfl,hk,hfd,hb⟩:=hrel
   obtain ⟨w5,hwo⟩:∃ w',w'=wr:=⟨_,rfl⟩
   subst hwo
   have HFD:=hQ hfd
   have HB5:=hQ hb
   clear hfd hb
   by_cases hkl:k<ps.length
   ·obtain ⟨q,hq⟩:∃ q,ps[k]? = some q:=⟨_,xF hkl⟩
    obtain ⟨hq0,hq1⟩:=HPQ.out q (yA hq)
    obtain ⟨_,lg,QA,qc,rfl,_,gl,p0,hqi⟩:=(HQ.out.keep HW2.out HB5.out).at (xQ HW2.out HB5.out.size) hq
    have HFN:=hQ (show (ps.drop k).find? (fun q=>decide (Qi3 t q=x))=if Qi3 t q=x then some q else (ps.drop (k+1)).find? (fun q=>decide (Qi3 t q=x)) from by
     rw [Qhd hq,List.find?_cons]
     by_cases h:Qi3 t q=x
     ·rw [xS h,xO h]
     ·rw [xR h,xN h])
    have HX5:=hQ ((HB5.out.block _ (Qaa HX2.out)).trans HX2.out)
    have HBA:=hQ (HB2.out.trans (HB5.out.mono HB2.out.size))
    have HT5:=hQ (HT0.out.keep HBA.out)
    have HQI:=hQ hqi
    have HQ0:=hQ hq0
    have HQ1:=hQ hq1
    have HCA:=hQ (fun (w':World) (hb:Below w5.heap.size w5 w')=>Qjd _ t ⟨vk,vx,vla,vll,vlc,vka,vkl,vkc⟩ QA qc q w' (HT5.out.keep hb) (HQI.out.keep hb) (by unfold maxLen;omega))
    have HB55:=hQ (xC w5.heap.size w5)
    have b0:w5.cell? ⟨w.heap.size,0,none⟩=some (.int .i64 vk):=Qab HX5.out 0 _ rfl
    have b1:w5.cell? ⟨w.heap.size,1,none⟩=some (.string vx):=Qab HX5.out 1 _ rfl
    have b2:w5.cell? ⟨w.heap.size,2,none⟩=some (.slice vla vll vlc):=Qab HX5.out 2 _ rfl
    have b3:w5.cell? ⟨w.heap.size,3,none⟩=some (.slice vka vkl vkc):=Qab HX5.out 3 _ rfl
    have dl:=Qaa HX5.out
    have k0:(0:Int)≤(k:Int):=by omega
    have k1:(k:Int)<(ps.length:Int):=by omega
    have k2:(k:Int)+1≤11001:=by omega
    have n0:=World.new_ne w5 _ b0
    have n1:=World.new_ne w5 _ p0
    clear hq hqi hq0 hq1
    go_wp2_with fail
    go_cut [10] (fun s7 wx=>AtK t q w5 s7 wx)
    case first =>
     go_region_held3 (fun w'=>w'.cell? ⟨w.heap.size,0,none⟩=some (.int .i64 vk)∧w'.cell? ⟨w.heap.size,1,none⟩=some (.string vx)∧w'.cell? ⟨w.heap.size,2,none⟩=some (.slice vla vll vlc)∧w'.cell? ⟨w.heap.size,3,none⟩=some (.slice vka vkl vkc)∧w'.cell? ⟨lg,k,none⟩=some (.slice QA q.length qc)) (first | with_reducible exact ⟨b0,b1,b2,b3,p0⟩ | go_keep) (first
      | (go_at_call 42;refine (HCA.out ((w5.alloc (.cells #[.int .i64 0,.string ⟨#[]⟩,.slice none 0 0,.slice none 0 0] 29)).drew) ((HB55.out.alloc HB55.out.size _).drew)).mono ?_;rintro e w3 ⟨hb3,x,rfl,S3,_,hx3⟩;have HKX:=hQ (And.intro hx3.kl.2.2.1 hx3.kl.2.2.2);have HB3:=hQ (show Below w5.heap.size w5 w3 from (((xC w5.heap.size w5).alloc (xA _) (.cells #[.int .i64 0,.string ⟨#[]⟩,.slice none 0 0,.slice none 0 0] 29)).drew).trans (hb3.mono (by show _≤(w5.alloc _).heap.size;rw [xI];omega)));have hzb:=(show w3.heap[w5.heap.size]? = some (.cells #[.int .i64 0,.string ⟨#[]⟩,.slice none 0 0,.slice none 0 0] 29 (0,0)) from (hb3.block _ (by show _<(w5.alloc _).heap.size;rw [xI];omega)).trans (xH w5 _));have HZB:=hQ hzb;have zf:∀ o,w3.frozen? ⟨w5.heap.size,o,none⟩=false:=(fun o=>xL hzb _);have zl:=Qaa hzb;have z0:w3.cell? ⟨w5.heap.size,0,none⟩=some (.int .i64 0):=Qab hzb 0 _ rfl;have z1:w3.cell? ⟨w5.heap.size,1,none⟩=some (.string ⟨#[]⟩):=Qab hzb 1 _ rfl;have z2:w3.cell? ⟨w5.heap.size,2,none⟩=some (.slice none 0 0):=Qab hzb 2 _ rfl;have z3:w3.cell? ⟨w5.heap.size,3,none⟩=some (.slice none 0 0):=Qab hzb 3 _ rfl;have h0:=Qb3 HB3.out dl b0;have h1:=Qb3 HB3.out dl b1;have h2:=Qb3 HB3.out dl b2;have h3:=Qb3 HB3.out dl b3;have h4:=Qb3 HB3.out gl p0;have g0:=xE dl HB3.out.size;have g1:=xE gl HB3.out.size;clear b0 b1 b2 b3 p0 dl gl;have b0:=h0;have b1:=h1;have b2:=h2;have b3:=h3;have p0:=h4;have dl:=g0;have gl:=g1;clear h0 h1 h2 h3 h4 g0 g1;clear hb3 hx3 hzb)
      | (go_at_call 42;refine (HCA.out w5.drew (HB55.out.drew)).mono ?_;rintro e w3 ⟨hb3,x,rfl,S3,_,hx3⟩;have HKX:=hQ (And.intro hx3.kl.2.2.1 hx3.kl.2.2.2);have HB3:=hQ (show Below w5.heap.size w5 w3 from (show Below w5.heap.size w5 w5.drew from (xC _ _).drew).trans hb3);have h0:=Qb3 HB3.out dl b0;have h1:=Qb3 HB3.out dl b1;have h2:=Qb3 HB3.out dl b2;have h3:=Qb3 HB3.out dl b3;have h4:=Qb3 HB3.out gl p0;have g0:=xE dl HB3.out.size;have g1:=xE gl HB3.out.size;clear b0 b1 b2 b3 p0 dl gl;have b0:=h0;have b1:=h1;have b2:=h2;have b3:=h3;have p0:=h4;have dl:=g0;have gl:=g1;clear h0 h1 h2 h3 h4 g0 g1;clear hb3 hx3))
     all_goals
      go_wp2_with fail
      go_meet
      first
       | (have hh:=HZB.out;clear hh;exact Qpj HZB.out HKX.out.1 HKX.out.2 HB3.out)
       | exact Qm5 HKX.out.1 HKX.out.2 HB3.out
    case rest =>
     obtain ⟨w6,hww⟩:∃ w',w'=wc:=⟨_,rfl⟩
     subst hww
     obtain ⟨g10,y,rfl,hxb,_,hxt,hb6⟩:=hcut
     obtain ⟨yk,yx,yla,yll,ylc,yka,ykl,ykc⟩:=y
     simp only at hxt
     have x1:w6.cell? ⟨g10,1,none⟩=some (.string yx):=Qab hxb 1 _ rfl
     have xl:=Qaa hxb
     have p0:=Qb3 hb6 gl p0
     have gl:=xE gl hb6.size
     have HB6:=hQ (HB5.out.trans (hb6.mono HB5.out.size))
     have HBE:=hQ (HBA.out.trans (hb6.mono HBA.out.size))
     have HQI6:=hQ (HQI.out.keep hb6)
     have hyx:yx=Qi3 t q:=hxt
     rw [←hyx] at HFN
     clear b0 b1 b2 b3 dl n0 n1 hxb hxt hyx hb6
     by_cases hxx:yx=x
     ·subst hxx
      have HR:=hQ (show Qdn (Qbj t zs) yx=some q from by rw [HFD.out,HFN.out,xO rfl])
      obtain ⟨qb,qo,rfl,hqb,hqc⟩:=HQI6.out HQ0.out
      have HC6:=hQ (show ∀ (j:Nat) (u:Value),(q.map (Value.int .i64))[j]? = some u→(w6.alloc (.cells #[] 3)).cell? ((⟨qb,qo,none⟩:Addr).add j)=some u from fun j u hu=>by
       rw [List.getElem?_map,Option.map_eq_some_iff] at hu
       obtain ⟨z,hz,rfl⟩:=hu
       have h2:=hqc j z hz
       rw [Qqd]
       exact (xJ (w:=w6) (a:=⟨qb,qo+j,none⟩) (Below.heap_alloc _ _ qb hqb)).trans h2)
      have HO6:=hQ (show (w6.alloc (.cells #[] 3)).ownsRow w.heap.size 3 1 (.slice (some ⟨w6.heap.size,0,none⟩) 0 0) 0 [] from ⟨rfl,.inr ⟨w6.heap.size,0,#[],rfl,HBE.out.size,xH w6 _,xA _,xZ _,rfl,rfl⟩⟩)
      have HSZ:=hQ (show w.heap.size≤(w6.alloc (.cells #[] 3)).heap.size from by rw [xI];have:=HBE.out.size;omega)
      have HB7:=hQ (HBE.out.trans ((Qal w6 (.cells #[] 3)).mono HBE.out.size))
      have HP:=hQ (show 0<q.length from List.length_pos_iff.2 HQ0.out)
      clear hqb hqc
      go_wp2_with (at_builtin;refine wpList_append_lies _ rfl _ _ 23 rfl w.heap.size 3 ii _ 1 8 Tryz.underlying23 hii iz0 iz1 iz2 rfl (by decide) (.slice (some ⟨w6.heap.size,0,none⟩) 0 0) 0 [] rfl HO6.out ⟨qb,qo,none⟩ q.length qc (q.map (Value.int .i64)) rfl (by simp) HC6.out (fun u hu=>by obtain ⟨x,_,rfl⟩:=List.mem_map.1 hu;rfl) HP.out (by have:=HQ1.out;unfold maxLen;omega) (by have:=HQ1.out;omega) HSZ.out _ rfl ?_;intro g2 c2 w8 hown hgr _ hlt;simp only [Nat.zero_add,xU] at hown ⊢;have HR3:=hQ (show IRow w8 w.heap.size (.slice (some ⟨g2,0,none⟩) q.length c2) q from hown);have HB8:=hQ (HB7.out.grown hgr HSZ.out (fun k hk=>by injection hk with hk;subst hk;exact HBE.out.size));clear hown hgr hlt)
      go_ret2
      rw [HR.out]
      exact ⟨HB8.out,_,rfl,HR3.out⟩
     ·have HR:=hQ (show Qdn (Qbj t zs) x=(ps.drop (k+1)).find? (fun q=>decide (Qi3 t q=x)) from by rw [HFD.out,HFN.out,xN hxx])
      have e1:=Qwi hxx
      clear hxx
      go_wp2_with fail
      go_roundw
      case measure=>first | (simp [intOf];done) | (simp [intOf];omega)
      case rel=>exact ⟨k+1,rfl,by omega,HR.out,HB6.out⟩
   ·obtain rfl:k=ps.length:=by omega
    have HR:=hQ (show Qdn (Qbj t zs) x=none from by rw [HFD.out,List.drop_length];rfl)
    go_wp2_with fail
    go_ret2
    rw [HR.out]
    exact ⟨HB2.out.trans (HB5.out.mono HB2.out.size),rfl⟩
end Go.Proofs.YtjidpkcjpgdafaaGreat
