/- Part 54 -/
import Derived.Test.YtclkilljmdkfaaaGreatTf53
set_option maxRecDepth 100000
set_option maxHeartbeats 4000000
namespace Go.Proofs.YtclkilljmdkfaaaGreat
open Go.RowKit Go.Shelf
mutual
def Qf0:Tr→List Tr
 | .mk k x l ks=>.mk k x l ks :: Qe5 ks
def Qe5:List Tr→List Tr
 | []=>[]
 | a :: r=>Qf0 a ++ Qe5 r
end
theorem Qnq (t:Tr):Qf0 t=t :: Qe5 t.kids:=by
 cases t
 rw [Qf0]
 rfl
mutual
theorem Qeu:(t:Tr)→(Qf0 t).length=Qah t
 | .mk k x l ks=>by rw [Qf0,Qah,xD,Qlh ks];omega
theorem Qlh:(l:List Tr)→(Qe5 l).length=Qam l
 | []=>by rw [Qe5,Qam];rfl
 | a :: r=>by rw [Qe5,Qam,xB,Qeu a,Qlh r]
end
theorem Qjy (a:Tr):(l:List Tr)→Qe5 (l ++ [a])=Qe5 l ++ Qf0 a
 | []=>by simp [Qe5]
 | b :: r=>by rw [xV,Qe5,Qe5,Qjy a r,xT]
theorem Zdb:(l:List Tr)→(j:Nat)→Qam (l.take j)≤Qam l
 | [],j=>by simp
 | a :: r,0=>by rw [List.take_zero,Qam];omega
 | a :: r,j+1=>by
  rw [List.take_succ_cons,Qam,Qam]
  have:=Zdb r j
  omega
theorem Zhi:(l:List Tr)→(k:Tr)→k∈l→Qah k≤Qam l
 | [],k,h=>by simp at h
 | a :: r,k,h=>by
  rw [Qam]
  rcases List.mem_cons.1 h with h | h
  ·subst h;omega
  ·have:=Zhi r k h
   omega
def NR (S:Nat→Prop) (lo:Nat) (w:World) (l:Value) (ts:List Tr):Prop:=∃ vs:List TV,vs.length=ts.length∧w.ownsRow lo 25 4 l ts.length (Qag vs)∧∀ (i:Nat) (k:Tr) (u:TV),ts[i]? = some k→vs[i]? = some u→TrAt S w k u
theorem Zk6 (vs:List TV):∀ u∈Qag vs,u.oneCell'=true:=fun u hu=>by
 unfold Qag at hu
 obtain ⟨v,_,h⟩:=List.mem_flatMap.1 hu
 exact Qg2 v u h
theorem NR.one {S:Nat→Prop} {w:World} {t:Tr} {v:TV} {lo g:Nat} (ht:TrAt S w t v) (hg:w.heap[g]? = some (trO v)) (hlo:lo≤g):NR S lo w (.slice (some ⟨g,0,none⟩) 1 1) [t]:=by
 refine ⟨[v],rfl,⟨by rw [Qd3];rfl,.inr ⟨g,1,_,rfl,hlo,hg,xA _,by unfold maxLen;omega,rfl,rfl⟩⟩,fun i k u hk hu=>?_⟩
 match i,hk,hu with
 | 0,hk,hu =>
  injection hk with hk
  injection hu with hu
  subst hk hu
  exact ht
 | i+1,hk,_=>simp at hk
theorem NR.later {S:Nat→Prop} {w w':World} {lo:Nat} {l:Value} {ts:List Tr} (h:NR S lo w l ts) (hb:Below w.heap.size w w'):NR S lo w' l ts:=by
 obtain ⟨vs,h1,h2,h3⟩:=h
 exact ⟨vs,h1,(Keeps.of_below (P:=fun _=>none) hb).row h2 fun _ _=>.inl rfl,fun i k u hk hu=>(h3 i k u hk hu).keep hb⟩
theorem NR.slice {S:Nat→Prop} {w:World} {lo:Nat} {l:Value} {ts:List Tr} (h:NR S lo w l ts):∃ A c,l = .slice A ts.length c:=by
 obtain ⟨vs,_,h2,_⟩:=h
 exact Qhe h2
theorem NR.mono {S:Nat→Prop} {w:World} {lo lo2:Nat} {l:Value} {ts:List Tr} (h:NR S lo w l ts) (hl:lo2≤lo):NR S lo2 w l ts:=by
 obtain ⟨vs,h1,h2,h3⟩:=h
 exact ⟨vs,h1,⟨h2.1,h2.2.imp id fun ⟨g,cap,cur,a,b,r⟩=>⟨g,cap,cur,a,xQ hl b,r⟩⟩,h3⟩
theorem NR.join {S:Nat→Prop} {w w':World} {lo g cap:Nat} {l:Value} {ts us:List Tr} {vs xs:List TV} (h1:vs.length=ts.length) (hrow:w.ownsRow lo 25 4 l ts.length (Qag vs))
  (h3:∀ (i:Nat) (k:Tr) (u:TV),ts[i]? = some k→vs[i]? = some u→TrAt S w k u) (q1:xs.length=us.length) (q3:∀ (i:Nat) (k:Tr) (u:TV),us[i]? = some k→xs[i]? = some u→TrAt S w k u) (hS:∀ b,S b→b<lo)
  (ho:w'.ownsRow lo 25 4 (.slice (some ⟨g,0,none⟩) (ts.length+us.length) cap) (ts.length+us.length) (Qag vs ++ Qag xs)) (hk:Keeps (pre l (ts.length*4)) w w') :
  NR S lo w' (.slice (some ⟨g,0,none⟩) (ts.length+us.length) cap) (ts ++ us):=by
 have hown:∀ b,l.ownBlock=some b→lo≤b:=fun b e=>(World.ownsRow.lt hrow b e).1
 have hm:∀ (a:Tr) (u:TV),TrAt S w a u→TrAt S w' a u:=fun a u ha=>TrAt.move (fun _ h=>h) (fun b hb hl=>hk.block b hl (Qc2 fun e=>by have:=hown b e;have:=hS b hb;omega)) _ _ ha
 refine ⟨vs ++ xs,by simp [h1,q1],?_,fun i k u hk hu=>?_⟩
 ·have e:Qag (vs ++ xs)=Qag vs ++ Qag xs:=by unfold Qag;simp
  rw [e,xB]
  exact ho
 ·by_cases hi:i<ts.length
  ·rw [yB hi] at hk
   rw [yB (by rw [h1];exact hi)] at hu
   exact hm _ _ (h3 i k u hk hu)
  ·rw [xX (by omega)] at hk
   rw [xX (by omega),h1] at hu
   exact hm _ _ (q3 _ k u hk hu)
def NdL (S:Nat→Prop) (t:Tr) (v:TV) (w:World) (l i:Value) (wr:World):Prop:=∃ j:Nat,i = .int .i64 (j:Int)∧j≤t.kids.length∧NR S (w.heap.size+1) wr l (t :: Qe5 (t.kids.take j))∧wr.heap[w.heap.size]? = some (trO v)∧Below w.heap.size w wr
theorem Qsi (N:Nat):∀ (S:Nat→Prop) (t:Tr) (v:TV) (w:World),Qah t≤N→N≤2000000→(∀ b,S b→b<w.heap.size)→TrAt S w t v →
  Calls Tryz.prog 23 #[.agg #[.int .i64 v.kind,.string v.text,.slice v.la v.ll v.lc,.slice v.ka v.kl v.kc]] w fun e w'=>∃ A c,e = .returned (.slice A (Qah t) c)∧NR S w.heap.size w' (.slice A (Qah t) c) (Qf0 t)∧Below w.heap.size w w':=by
 induction N with
 | zero=>intro S t v w h;have:=Qa3 t;omega
 | succ N ih =>
  intro S t v w hz hN hS ht
  obtain ⟨it,hit,ht0,ht1,ht2⟩:=info_parts Qct
  obtain ⟨vk,vx,vla,vll,vlc,vka,vkl,vkc⟩:=v
  obtain ⟨u1,u2,u3,u4⟩:=ht.kl
  simp only at u1 u2 u3 u4
  subst u1
  have hb0:=Qfx w (trO ⟨vk,vx,vla,vll,vlc,vka,t.kids.length,vkc⟩) (trO ⟨vk,vx,vla,vll,vlc,vka,t.kids.length,vkc⟩)
  obtain ⟨bx0,bx1⟩:=Qet w (trO ⟨vk,vx,vla,vll,vlc,vka,t.kids.length,vkc⟩) (trO ⟨vk,vx,vla,vll,vlc,vka,t.kids.length,vkc⟩)
  have HST:=hQ (show NdL S t ⟨vk,vx,vla,vll,vlc,vka,t.kids.length,vkc⟩ w (.slice (some ⟨w.heap.size+1,0,none⟩) 1 1) (.int .i64 0) ((w.alloc (trO ⟨vk,vx,vla,vll,vlc,vka,t.kids.length,vkc⟩)).alloc (trO ⟨vk,vx,vla,vll,vlc,vka,t.kids.length,vkc⟩)) from ⟨0,rfl,xZ _,NR.one (ht.keep hb0) bx1 (xA _),bx0,hb0⟩)
  have HZ:=hQ hz
  have HN:=hQ hN
  have HS:=hQ hS
  have HT:=hQ ht
  have IH:=hQ ih
  clear hb0 bx0 bx1 hz hN hS ht ih u2 u3 u4
  go_enter Tryz.func23,Tryz.ntmps23
  go_wp2_with fail
  go_loopw [3,4] (fun l i wr=>NdL S t ⟨vk,vx,vla,vll,vlc,vka,t.kids.length,vkc⟩ w l i wr) (fun _ i _=>t.kids.length-(intOf i).toNat)
  case atStart=>exact HST.out
  case round =>
   obtain ⟨j,rfl,hj,hnr,hx,hb⟩:=hrel
   obtain ⟨us,hus⟩:∃ us,us=t :: Qe5 (t.kids.take j):=⟨_,rfl⟩
   rw [←hus] at hnr
   have HUS:=hQ hus
   obtain ⟨LA,lc,hl⟩:=hnr.slice
   subst hl
   have HNR:=hQ hnr
   have HX:=hQ hx
   have HB:=hQ hb
   clear hus hnr hx hb
   have k3:wr.cell? ⟨w.heap.size,3,none⟩=some (.slice vka t.kids.length vkc):=Qab HX.out 3 _ rfl
   have kl:=xK wr _ k3
   by_cases hlt:j<t.kids.length
   ·obtain ⟨k,hk⟩:∃ k,t.kids[j]? = some k:=⟨_,xF hlt⟩
    obtain ⟨g,o,hka⟩:∃ b off,vka=some ⟨b,off,none⟩:=HT.out.addr.resolve_left (by omega)
    subst hka
    obtain ⟨kv,c0,c1,c2,c3,hkv⟩:=(HT.out.keep HB.out).at rfl hk
    have cl:=xK wr _ c0
    have j0:(0:Int)≤(j:Int):=by omega
    have j1:(j:Int)<(t.kids.length:Int):=by omega
    have hsk:Qah k<Qah t:=by have h1:=Zhi t.kids k (yA hk);have h2:=Qa3 t;omega
    have j2:(j:Int)+1≤2000001:=by have h1:=Qa0 t.kids;have h2:=Qa3 t;have:=HZ.out;have:=HN.out;omega
    have HC:=hQ (IH.out S k kv wr (by have:=HZ.out;omega) (by have:=HN.out;omega) (fun b hb=>xE (HS.out b hb) HB.out.size) hkv)
    have HK:=hQ hk
    have HSUM:=hQ (show us.length+Qah k≤2000000 from by
     have h1:(t :: Qe5 (t.kids.take (j+1))).length=us.length+Qah k:=by
      rw [HUS.out,List.take_add_one,hk,Option.toList_some,Qjy,xD,xD,xB,Qeu]
      omega
     rw [xD,Qlh] at h1
     have h2:=Zdb t.kids (j+1)
     have h3:=Qa3 t
     have:=HZ.out
     have:=HN.out
     omega)
    have HPOS:=hQ (show 0<Qah k from by have:=Qa3 k;omega)
    clear hk hkv hsk
    go_wp2_with fail
    go_at_call 23
    refine HC.out.mono ?_
    rintro e w5 ⟨A5,c5,rfl,hn5,hb5⟩
    obtain ⟨vs,h1,h2,h3⟩:=HNR.out
    obtain ⟨xs,q1,q2,q3⟩:=hn5
    rw [Qeu] at q2
    obtain ⟨g5,cap5,hv5,hg5,hl5⟩:=World.ownsRow.form q2 HPOS.out
    injection hv5 with hv1 hv2 hv3
    subst hv1 hv3
    have H1:=hQ h1
    have H2:=hQ ((Keeps.of_below (P:=fun _=>none) hb5).row h2 fun _ _=>.inl rfl)
    have H3:=hQ (show ∀ (i:Nat) (k:Tr) (u:TV),us[i]? = some k→vs[i]? = some u→TrAt S w5 k u from fun i k u hk hu=>(h3 i k u hk hu).keep hb5)
    have Q1:=hQ q1
    have Q3:=hQ q3
    have HXL:=hQ (show (Qag xs).length=Qah k*4 from by rw [Qd3,q1,Qeu])
    have HNW:=hQ (q2.cells (g:=g5) rfl)
    have HB5:=hQ hb5
    have HM1:=hQ (show us.length+Qah k≤maxLen from by have:=HSUM.out;unfold maxLen;omega)
    have HM2:=hQ (show (us.length+Qah k)*72≤140737488355328 from by have:=HSUM.out;omega)
    have HSZ:=hQ (show w.heap.size+1≤w5.heap.size from xQ (Qaa HX.out) hb5.size)
    clear h1 h2 h3 q1 q2 q3 hb5 hv2
    go_wp2_with (at_builtin;refine Qfn _ rfl _ _ 22 rfl (w.heap.size+1) 25 it _ 4 72 Tryz.underlying22 hit ht0 ht1 ht2 rfl (by decide) _ us.length (Qag vs) rfl H2.out ⟨g5,0,none⟩ (Qah k) c5 (Qag xs) rfl HXL.out HNW.out (Zk6 xs) HPOS.out HM1.out HM2.out HSZ.out ?_;intro g6 c6 w6 hown6 hk6 hg6 hlt6;have HO6:=hQ hown6;have HK6:=hQ hk6;clear hown6 hk6 hg6 hlt6)
    go_roundw
    case measure=>first | (simp [intOf];done) | (simp [intOf];omega)
    case rel =>
     have h:=NR.join H1.out H2.out H3.out (us:=Qf0 k) Q1.out Q3.out (fun b hb=>Nat.lt_succ_of_lt (HS.out b hb)) (by rw [Qeu];exact HO6.out) HK6.out
     rw [Qeu] at h
     refine ⟨j+1,rfl,by omega,?_,?_,?_⟩
     ·rw [List.take_add_one,HK.out,Option.toList_some,Qjy,←xV,←HUS.out]
      exact h
     ·exact (HK6.out.block _ (xE (Qaa HX.out) HB5.out.size) (Qc2 fun e=>by have:=(World.ownsRow.lt H2.out _ e).1;omega)).trans ((HB5.out.block _ (Qaa HX.out)).trans HX.out)
     ·exact HB.out.trans ((HB5.out.mono HB.out.size).trans (HK6.out.below (xQ HB.out.size HB5.out.size) fun b hl=>Qc2 fun e=>by have:=(World.ownsRow.lt H2.out b e).1;omega))
   ·obtain rfl:j=t.kids.length:=by omega
    have HE:=hQ (show us=Qf0 t from by rw [HUS.out,Qnq,List.take_length])
    have HL:=hQ (show us.length=Qah t from by rw [HE.out,Qeu])
    go_wp2_with fail
    go_ret
    exact ⟨LA,lc,by rw [←HL.out];rfl,by have h:=HNR.out.mono (Nat.le_succ _);rw [HE.out,Qeu] at h;exact h,HB.out⟩
end Go.Proofs.YtclkilljmdkfaaaGreat
namespace Go.Proofs.YtclkilljmdkfaaaGreat
open Go.RowKit
def Zdc (k:Int):Prop:=k=5∨k=6∨k=7
theorem Qsj {k:Int} (hk:Zdc k):(n:Nat)→Qb2 (Qcl n (Qbu k))=Qbu k∧Qcb (Qcl n (Qbu k))=n
 | 0=>Qio (by show k≠8;rcases hk with h | h | h <;> omega)
 | n+1=>by
  obtain ⟨h1,h2⟩:=Qsj hk n
  have h:=Qin (t:=Qcl (n+1) (Qbu k)) (k:=Qcl n (Qbu k)) (r:=[]) rfl rfl
  rw [h.1,h.2,h1,h2]
  exact ⟨rfl,rfl⟩
theorem Qhq (k:Int):(n:Nat)→Qah (Qcl n (Qbu k))=n+1
 | 0=>by unfold Qcl Qbu;rw [Qah,Qam]
 | n+1=>by rw [Qcl,Qah,Qam,Qam,Qhq k n];omega
theorem Qsk {k:Int} (hk:Zdc k) (n:Nat):5≤(Qcl n (Qbu k)).kind∧(Qcl n (Qbu k)).kind≤9:=by
 cases n with
 | zero=>show 5≤k∧k≤9;rcases hk with h | h | h <;> omega
 | succ n=>show (5:Int)≤8∧(8:Int)≤9;omega
theorem Zjt {k:Int} (h:5≤k∧k≤9):Qe7 3 k=true:=by
 have e:Qe7 3 k=(decide (5≤k) && decide (k≤9)):=rfl
 rw [e,xS h.1,xS h.2]
 rfl
theorem Quh:Qal (Qbu 5)=true∧Qal (Qbu 6)=true∧Qal (Qbu 7)=true∧Qaz (Qbu 5)=true∧Qaz (Qbu 6)=true∧Qaz (Qbu 7)=true:=by
 refine ⟨?_,?_,?_,?_,?_,?_⟩ <;> kernel_rfl
theorem Qyg:(Qb6 (Qae 8) 1).2=true∧Qa6 (Qae 8) ⟨#[]⟩=true∧Qeg (Qae 8) (Qb6 (Qae 8) 1).1 = [3]:=by
 refine ⟨?_,?_,?_⟩ <;> kernel_rfl
theorem Qfq {k:Int} (hk:Zdc k):(n:Nat)→Qal (Qcl n (Qbu k))=true∧Qaz (Qcl n (Qbu k))=true
 | 0=>by
  obtain ⟨h1,h2,h3,h4,h5,h6⟩:=Quh
  rcases hk with h | h | h
  ·rw [h];exact ⟨h1,h4⟩
  ·rw [h];exact ⟨h2,h5⟩
  ·rw [h];exact ⟨h3,h6⟩
 | n+1=>by
  obtain ⟨h1,h2⟩:=Qfq hk n
  have hb:=Zjt (Qsk hk n)
  obtain ⟨f1,f2,f3⟩:=Qyg
  have e1:(Qcl (n+1) (Qbu k)).kind=8:=rfl
  have e2:(Qcl (n+1) (Qbu k)).kids = [Qcl n (Qbu k)]:=rfl
  have e3:(Qcl (n+1) (Qbu k)).text=⟨#[]⟩:=rfl
  have e4:[Qcl n (Qbu k)].length=1:=rfl
  constructor
  ·rw [Qhg,e1,e2,e3,e4,show ((1:Nat):Int)=1 from rfl,f1,f2,f3,Qih,hb,h1,Qd7]
   rfl
  ·have e5:Qgq 8 [Qcl n (Qbu k)].length 0 (Qcl n (Qbu k)).kind=Qe7 3 (Qcl n (Qbu k)).kind:=rfl
   rw [Qel,e1,e2,e3,f2,Qbi,Qbi,e5,hb,h2]
   rfl
theorem Qql (k:Int):(n:Nat)→Qhs (Qcl n (Qbu k))=true
 | 0=>Qlf (by simp) (by simp) (fun t ht=>by simp at ht)
 | n+1=>Qlf (by simp) (by simp) fun t ht=>by
  obtain rfl:=List.mem_singleton.1 ht
  exact Qql k n
theorem Qi8 (k:Int):(n:Nat)→Qbh (Qcl n (Qbu k))=true
 | 0=>Qhp (show 0<maxLen by unfold maxLen;omega) (fun t ht=>by simp at ht)
 | n+1=>Qhp (show 0<maxLen by unfold maxLen;omega) fun t ht=>by
  obtain rfl:=List.mem_singleton.1 ht
  exact Qi8 k n
theorem Qo6 {k:Int} (hk:Zdc k):(n:Nat)→∀ a∈Qf0 (Qcl n (Qbu k)),a.kind≠9∧a.leads = []
 | 0=>fun a ha=>by
  unfold Qcl Qbu at ha
  rw [Qf0,Qe5] at ha
  obtain rfl:=List.mem_singleton.1 ha
  exact ⟨by show k≠9;rcases hk with h | h | h <;> omega,rfl⟩
 | n+1=>fun a ha=>by
  rw [Qcl,Qf0,Qe5,Qe5,List.append_nil] at ha
  rcases List.mem_cons.1 ha with h | h
  ·subst h
   exact ⟨by show (8:Int)≠9;decide,rfl⟩
  ·exact Qo6 hk n a h
theorem Qsl (k:Int):(n:Nat)→Qhi (Qcl n (Qbu k)) (Qcl n (Qbu k))=true
 | 0=>by unfold Qcl Qbu;rw [Qhi,Qf6];simp [Qdc]
 | n+1=>by rw [Qcl,Qhi,Qf6,Qf6,Qsl k n];simp [Qdc]
theorem Qsm {t:Tr} (hs:Qaz t=true) (hk:5≤t.kind∧t.kind≤9) (h9:(Qb2 t).kind≠9):Zdc (Qb2 t).kind:=by
 have:=(Qhl _ t (xA _) hs hk).1
 unfold Zdc
 omega
theorem Qv1 {ps:List Tr} (hz:∀ t∈ps,Qah t≤1000) (hg:Qc1 ps=true):(f:Nat)→(r:Int × Int × Bool)→(met:List (Int × Int))→(n:Nat)→(R:Int × Nat × Int)→Zjo ps r→goL ps f r met n=some R→R.1=0→Zdc R.2.2
 | 0,_,_,_,_,_,h,_=>by rw [goL] at h;cases h
 | f+1,r,met,n,R,hr,h,h0=>by
  rcases hr with ⟨hr,_⟩|⟨M,D,t,k,rfl,ht,hk,h3⟩
  ·have:=Zhg h hr
   rw [this] at h0
   exact absurd h0 (by decide)
  ·by_cases hm:((M:Int),(D:Int))∈met
   ·have:=Zcs h rfl hm
    rw [this] at h0
    exact absurd h0 (by decide)
   ·obtain ⟨a,_,_,q1,q2,q3,q4⟩:=Zct hz hg ht hk h3
    by_cases h9:(Qei (Qnb ps M D)).kind=9
    ·obtain ⟨f',hf,h2⟩:=Qvx h hm h9
     obtain rfl:f'=f:=by omega
     refine Qv1 hz hg f' _ _ _ R ?_ h2 h0
     rw [q1] at h9 ⊢
     have hc:=Qhl _ a (xA _) q2 q3
     exact Qi5 hz hg hc.2.2.2 h9 (by rw [Qa3,hc.2.1,Qam];omega)
    ·have:=Qvw h hm h9
     rw [this]
     show Zdc (Qei (Qnb ps M D)).kind
     rw [q1] at h9 ⊢
     exact Qsm q2 q3 h9
theorem Zgt {ps:List Tr} {m:Int} {t:Tr} (hz:∀ t∈ps,Qah t≤1000) (hss:Qaz t=Qal t) (h:(Qcm ps m t).1=0):Qc1 ps=true∧0<ps.length∧Zdc (Qcm ps m t).2.2:=by
 unfold Qcm at h ⊢
 split at h
 ·cases h
 ·rename_i hn
  rw [xN hn]
  have hg:Qc1 ps=true:=by cases hx:Qc1 ps with
   | true=>rfl
   | false=>exact absurd (.inl hx) hn
  have hm:¬ m<0:=fun h=>hn (.inr (.inl h))
  have hl:¬ (ps.length:Int)≤m:=fun h=>hn (.inr (.inr (.inl h)))
  have hk:5≤t.kind∧t.kind≤9:=Decidable.not_not.1 fun h=>hn (.inr (.inr (.inr (.inl h))))
  have hs:Qal t=true:=by cases hx:Qal t with
   | true=>rfl
   | false=>exact absurd (.inr (.inr (.inr (.inr hx)))) hn
  have hs2:Qaz t=true:=hss.trans hs
  refine ⟨hg,by omega,?_⟩
  by_cases h9:(Qb2 t).kind=9
  ·have hgo:=Qt7 (ps:=ps) (m:=m.toNat) h9
   have hc:=Qhl _ t (xA _) hs2 hk
   exact Qv1 hz hg _ _ _ _ _ (Qi5 hz hg hc.2.2.2 h9 (by rw [Qa3,hc.2.1,Qam];omega)) hgo h
  ·unfold Zbz
   rw [xN h9]
   exact Qsm hs2 hk h9
theorem Zdd {ps:List Tr} {k:Int} (hg:Qc1 ps=true) (hl:0<ps.length) (hk:Zdc k) (n:Nat):Qcm ps 0 (Qcl n (Qbu k))=(0,n,k):=by
 have h:=Qv0 (M:=0) hg (by omega) (by omega) (Qsk hk n) (Qfq hk n).1
 rw [show ((0:Nat):Int)=0 from rfl] at h
 rw [h]
 unfold Zbz
 obtain ⟨h1,h2⟩:=Qsj hk n
 rw [h1,h2,xN (by show k≠9;rcases hk with h | h | h <;> omega)]
 rfl
theorem Zgu {ps:List Tr} {m:Int} {t:Tr} (hz:∀ t∈ps,Qah t≤1000) (hss:Qaz t=Qal t) (h:(Qcm ps m t).1=0) :
  ∃ (n:Nat) (k:Int),Zdc k∧n=(Qcm ps m t).2.1∧exT ps m t=Qcl n (Qbu k)∧(Qcm ps 0 (Qcl n (Qbu k))).1=0∧exT ps 0 (Qcl n (Qbu k))=Qcl n (Qbu k)∧eqG ps m t 0 (Qcl n (Qbu k))=true∧eqG ps 0 (Qcl n (Qbu k)) m t=true:=by
 obtain ⟨hg,hl,hk⟩:=Zgt hz hss h
 have hw:=Zdd hg hl hk (Qcm ps m t).2.1
 refine ⟨(Qcm ps m t).2.1,(Qcm ps m t).2.2,hk,rfl,Qqk h,by rw [hw],?_,?_,?_⟩
 ·rw [Qqk (by rw [hw]),hw]
 ·unfold eqG
  rw [hw,h]
  simp
 ·unfold eqG
  rw [hw,h]
  simp
end Go.Proofs.YtclkilljmdkfaaaGreat
namespace Go.Proofs.YtclkilljmdkfaaaGreat
open Go.RowKit Go.Shelf
theorem Qsv (A:Option Addr) (n c:Nat) (w:World):Calls Tryz.prog 21 #[.slice A n c] w fun e w'=>e = .returned (.bool (decide (n≤120)))∧w'=w:=by
 have h:(decide ((n:Int)≤120))=decide (n≤120):=by simp;omega
 go_enter Tryz.func21,Tryz.ntmps21
 go_wp2
 go_ret
 first | exact ⟨rfl,rfl⟩ | (rw [←h];exact ⟨rfl,rfl⟩) | (simp;done) | (simp;omega)
theorem Zd1 {ps:List Tr} (hg:∀ t∈ps,Qsq t):Qc1 ps=true:=by
 unfold Qc1
 rw [List.all_eq_true]
 intro t ht
 obtain ⟨h1,_,_,h4⟩:=hg t ht
 unfold Qga at h1
 simp only [Bool.and_eq_true] at h1
 rw [h4,h1.1.1.1.1]
 rfl
mutual
theorem Qsw:(t a:Tr)→a∈Qf0 t→Qhs t=true→Qbh t=true→Qhs a=true∧Qbh a=true∧Qah a≤Qah t
 | .mk k x l ks,a,ha,hf,hw=>by
  rw [Qf0] at ha
  rcases List.mem_cons.1 ha with h | h
  ·subst h
   exact ⟨hf,hw,xA _⟩
  ·have:=Qpi ks a h (fun b j hb=>(Qds hf).2.2 j b hb) (fun b j hb=>(Qb3 hw).2.2 j b hb)
   exact ⟨this.1,this.2.1,by rw [Qah];omega⟩
theorem Qpi:(l:List Tr)→(a:Tr)→a∈Qe5 l→(∀ (b:Tr) (j:Nat),l[j]? = some b→Qhs b=true)→(∀ (b:Tr) (j:Nat),l[j]? = some b→Qbh b=true)→Qhs a=true∧Qbh a=true∧Qah a≤Qam l
 | [],a,ha,_,_=>by rw [Qe5] at ha;simp at ha
 | c :: r,a,ha,hf,hw=>by
  rw [Qe5] at ha
  rcases List.mem_append.1 ha with h | h
  ·have:=Qsw c a h (hf c 0 rfl) (hw c 0 rfl)
   exact ⟨this.1,this.2.1,by rw [Qam];omega⟩
  ·have:=Qpi r a h (fun b j hb=>hf b (j+1) hb) (fun b j hb=>hw b (j+1) hb)
   exact ⟨this.1,this.2.1,by rw [Qam];omega⟩
end
theorem NR.at {S:Nat→Prop} {lo:Nat} {w:World} {A:Option Addr} {n c:Nat} {ts:List Tr} (h:NR S lo w (.slice A n c) ts) {j:Nat} {k:Tr} (hk:ts[j]? = some k):n=ts.length∧∃ (g:Nat) (u:TV),A=some ⟨g,0,none⟩∧lo≤g∧g<w.heap.size ∧
  w.cell? ⟨g,j*4,none⟩=some (.int .i64 u.kind)∧w.cell? ⟨g,j*4+1,none⟩=some (.string u.text)∧w.cell? ⟨g,j*4+2,none⟩=some (.slice u.la u.ll u.lc)∧w.cell? ⟨g,j*4+3,none⟩=some (.slice u.ka u.kl u.kc)∧TrAt S w k u:=by
 obtain ⟨vs,h1,h2,h3⟩:=h
 have hj:=(xP.1 hk).1
 obtain ⟨g,cap,hv,hg,hl⟩:=World.ownsRow.form h2 (by omega)
 injection hv with hv1 hv2 hv3
 subst hv1
 have hcs:=h2.cells (g:=g) rfl
 have hc:∀ (j:Nat) (x:Value),(Qag vs)[j]? = some x→w.cell? ⟨g,j,none⟩=some x:=fun j x hx=>by
  have h:=hcs j x hx
  rw [Addr.add_lit] at h
  simp only [Nat.zero_add] at h
  exact h
 obtain ⟨u,hu⟩:∃ u,vs[j]? = some u:=⟨_,xF (by rw [h1];exact hj)⟩
 obtain ⟨q0,q1,q2,q3⟩:=Qef vs j u hu
 exact ⟨hv2,g,u,rfl,hg,hl,hc _ _ q0,hc _ _ q1,hc _ _ q2,hc _ _ q3,h3 j k u hk hu⟩
theorem NR.in {S:Nat→Prop} {lo g:Nat} {w:World} {n c:Nat} {ts:List Tr} (h:NR S lo w (.slice (some ⟨g,0,none⟩) n c) ts) {j:Nat} {k:Tr} (hk:ts[j]? = some k):lo≤g∧g<w.heap.size∧∃ u:TV,
  w.cell? ⟨g,j*4,none⟩=some (.int .i64 u.kind)∧w.cell? ⟨g,j*4+1,none⟩=some (.string u.text)∧w.cell? ⟨g,j*4+2,none⟩=some (.slice u.la u.ll u.lc)∧w.cell? ⟨g,j*4+3,none⟩=some (.slice u.ka u.kl u.kc)∧TrAt S w k u:=by
 obtain ⟨_,g2,u,hA,h1,h2,h3⟩:=h.at hk
 injection hA with hA
 injection hA with hA
 subst hA
 exact ⟨h1,h2,u,h3⟩
theorem Zj3 {w4 w8 w':World} {p r g d:Nat} {x y u:TV} (hb:Below w8.heap.size w8 w') (hx:w8.heap[p]? = some (trO x)) (hy:w8.heap[r]? = some (trO y)) (h4:Below w4.heap.size w4 w8)
  (hu:w4.cell? ⟨g,d*4,none⟩=some (.int .i64 u.kind)∧w4.cell? ⟨g,d*4+1,none⟩=some (.string u.text)∧w4.cell? ⟨g,d*4+2,none⟩=some (.slice u.la u.ll u.lc)∧w4.cell? ⟨g,d*4+3,none⟩=some (.slice u.ka u.kl u.kc)) :
  w'.cell? ⟨p,0,none⟩=some (.int .i64 x.kind)∧w'.cell? ⟨p,1,none⟩=some (.string x.text)∧w'.cell? ⟨p,2,none⟩=some (.slice x.la x.ll x.lc)∧w'.cell? ⟨p,3,none⟩=some (.slice x.ka x.kl x.kc) ∧
  w'.cell? ⟨r,0,none⟩=some (.int .i64 y.kind)∧w'.cell? ⟨r,1,none⟩=some (.string y.text)∧w'.cell? ⟨r,2,none⟩=some (.slice y.la y.ll y.lc)∧w'.cell? ⟨r,3,none⟩=some (.slice y.ka y.kl y.kc) ∧
  w'.cell? ⟨g,d*4,none⟩=some (.int .i64 u.kind)∧w'.cell? ⟨g,d*4+1,none⟩=some (.string u.text)∧w'.cell? ⟨g,d*4+2,none⟩=some (.slice u.la u.ll u.lc)∧w'.cell? ⟨g,d*4+3,none⟩=some (.slice u.ka u.kl u.kc)∧p<w'.heap.size∧r<w'.heap.size∧g<w'.heap.size:=by
 have hx2:=(hb.block _ (Qaa hx)).trans hx
 have hy2:=(hb.block _ (Qaa hy)).trans hy
 have hg:=xK w4 _ hu.1
 have hb2:=h4.trans (hb.mono h4.size)
 exact ⟨Qab hx2 0 _ rfl,Qab hx2 1 _ rfl,Qab hx2 2 _ rfl,Qab hx2 3 _ rfl,Qab hy2 0 _ rfl,Qab hy2 1 _ rfl,Qab hy2 2 _ rfl,Qab hy2 3 _ rfl,
  (hb2.cell (p:=⟨g,d*4,none⟩) hg).trans hu.1,(hb2.cell (p:=⟨g,d*4+1,none⟩) hg).trans hu.2.1,(hb2.cell (p:=⟨g,d*4+2,none⟩) hg).trans hu.2.2.1,(hb2.cell (p:=⟨g,d*4+3,none⟩) hg).trans hu.2.2.2,Qaa hx2,Qaa hy2,xE hg hb2.size⟩
theorem Zd2 (A:Option Addr) (c:Nat) (xs:List Int) (w:World) (hx:Qlq w A xs) :
  Calls Tryz.prog 5 #[.slice A xs.length c] w fun e w'=>e = .returned (.bool true)∧Below w.heap.size w w':=by
 by_cases hl:xs.length≤120
 ·have d0:=xS hl
  have HP:=hQ (Qun A c xs w hx hl)
  clear hx hl
  go_enter Tryz.func5,Tryz.ntmps5
  go_wp2_with (first | (go_at_call 21;refine (Qsv _ _ _ _).mono ?_;rintro e w0 ⟨rfl,h0⟩;rw [h0];clear h0 w0) | fail)
  go_at_call 22
  refine HP.out.mono ?_
  rintro e w1 ⟨r,ps,rfl,hm,hlen,hgood,hb⟩
  obtain ⟨A1,c1,us,rfl,hc1,hus,hrow,hat⟩:=hm
  have HB:=hQ hb
  have hcnt:=Zg4 hlen hgood
  have HR:=hQ (TrAt.low _ _ (Zdz hc1 hus hrow hat))
  have HF:=hQ (Zad _ (show Qtn (Qbp ps)≤1048576 from by omega))
  have HW:=hQ (Qkv _ (show Qtn (Qbp ps)≤1048576 from by omega))
  have HZ3:=hQ (fun t ht=>(hgood t ht).2.2.1)
  have HZ:=hQ (fun t ht=>xQ (hgood t ht).2.2.1 (show 352≤1000 from by decide))
  have HG:=hQ (Zd1 hgood)
  have HZT:=hQ (show Qam ps≤1056 from by
   have h1:=Qnw ps hgood
   have h2:352*ps.length≤352*3:=Nat.mul_le_mul_left _ hlen
   omega)
  have HZL:=hQ (show Qam ps≤90000 from xQ HZT.out (by decide))
  have hnl:(ps.length:Int)≤3:=by omega
  clear hrow hat hgood hb hcnt hc1 hus
  go_wp2_with fail
  go_loopw [4] (fun i wr=>∃ q:Nat,i = .int .i64 (q:Int)∧q≤ps.length∧Below w1.heap.size w1 wr) (fun i _=>ps.length-(intOf i).toNat)
  case atStart=>exact ⟨0,rfl,xZ _,xC _ _⟩
  case round =>
   obtain ⟨q,rfl,hq,hb⟩:=hrel
   obtain ⟨wo,hwo⟩:∃ w',w'=wr:=⟨_,rfl⟩
   subst hwo
   have HBR:=hQ hb
   clear hb
   by_cases hlt:q<ps.length
   ·obtain ⟨T,hT⟩:∃ T,ps[q]? = some T:=⟨_,xF hlt⟩
    obtain ⟨b,off,hka⟩:∃ b off,A1=some ⟨b,off,none⟩:=HR.out.addr.resolve_left (by show ¬ ps.length=0;omega)
    subst hka
    obtain ⟨tv,c0,c1',c2,c3,htv⟩:=(HR.out.keep HBR.out).at rfl (show (Qbp ps).kids[q]? = some T from hT)
    have cl:=xK wo _ c0
    have q0:(0:Int)≤(q:Int):=by omega
    have q1:(q:Int)<(ps.length:Int):=by omega
    have q2:(q:Int)+1≤3:=by omega
    have HT:=hQ hT
    have HTZ:=hQ (show Qah T≤352 from HZ3.out T (yA hT))
    have HTF:=hQ ((Qds HF.out).2.2 q T hT)
    have HTW:=hQ ((Qb3 HW.out).2.2 q T hT)
    have HC:=hQ (Qsi 352 (fun b=>b<w1.heap.size) T tv wo HTZ.out (by decide) (fun b hb=>xE hb HBR.out.size) htv)
    clear hT htv
    go_wp2_with fail
    go_at_call 23
    refine HC.out.mono ?_
    rintro e w3 ⟨NA,nc,rfl,hnr,hb3⟩
    obtain ⟨-,g3,-,hNA,-⟩:=hnr.at (j:=0) (k:=T) (by rw [Qnq];rfl)
    subst hNA
    have HNR:=hQ hnr
    have HB3:=hQ (HBR.out.trans (hb3.mono HBR.out.size))
    clear hnr hb3
    go_wp2_with fail
    go_loopw [6] (fun i wr=>∃ d:Nat,i = .int .i64 (d:Int)∧d≤Qah T∧Below w3.heap.size w3 wr) (fun i _=>Qah T-(intOf i).toNat)
    case atStart=>exact ⟨0,rfl,xZ _,xC _ _⟩
    case round =>
     obtain ⟨d,rfl,hd,hb⟩:=hrel
     have HBQ:=hQ hb
     clear hb
     by_cases hdl:d<Qah T
     ·obtain ⟨t,ht⟩:∃ t,(Qf0 T)[d]? = some t:=⟨_,xF (by rw [Qeu];exact hdl)⟩
      obtain ⟨-,-,u,n0,n1,n2,n3,hu⟩:=(HNR.out.later HBQ.out).in ht
      have nl:=xK wr _ n0
      have d1:(0:Int)≤(d:Int):=by omega
      have d2:(d:Int)<(Qah T:Int):=by omega
      have d3:(d:Int)+1≤352:=by have:=HTZ.out;omega
      obtain ⟨hfit,hwords,hsz⟩:=Qsw T t (yA ht) HTF.out HTW.out
      have HTT:=hQ ht
      have HTS:=hQ (Qfz _ hfit)
      have HTWD:=hQ hwords
      have HT3:=hQ (show Qah t≤352 from xQ hsz HTZ.out)
      have HSS:=hQ (Qcw _ t (xA _) (show Qah t≤1000 from xQ hsz (xQ HTZ.out (by decide))))
      have HUT:=hQ hu
      have HUN:=hQ (show wr.cell? ⟨g3,d*4,none⟩=some (.int .i64 u.kind)∧wr.cell? ⟨g3,d*4+1,none⟩=some (.string u.text)∧wr.cell? ⟨g3,d*4+2,none⟩=some (.slice u.la u.ll u.lc)∧wr.cell? ⟨g3,d*4+3,none⟩=some (.slice u.ka u.kl u.kc) from ⟨n0,n1,n2,n3⟩)
      have HB4:=hQ (HB3.out.trans (HBQ.out.mono HB3.out.size))
      obtain ⟨w4,hw4⟩:∃ w',w'=wr:=⟨_,rfl⟩
      subst hw4
      clear ht hfit hwords hsz hu
      go_wp2_with fail
      go_at_call 14
      refine (Qlg _ _ (some ⟨b,off,none⟩) c1 ps (q:Int) t u w4 (HR.out.keep HB4.out) HF.out HW.out HZ.out HZL.out HUT.out HTS.out HTWD.out (xQ HT3.out (by decide)) HSS.out).mono ?_
      rintro e w5 ⟨u5,rfl,hu5,hb5⟩
      have HB5:=hQ hb5
      by_cases hE:(Qcm ps (q:Int) t).1=0
      ·obtain ⟨n,k,hk,hn,hex,hf0,hex2,he1,he2⟩:=Zgu HZ.out HSS.out hE
       have hnb:n≤1057352:=by
        have h1:=Qnp (m:=(q:Int)) HZ.out HT3.out
        have h2:=HZT.out
        omega
       rw [hex] at hu5
       rw [hE]
       have HK:=hQ hk
       have HNB:=hQ hnb
       have HF0:=hQ hf0
       have HEX2:=hQ hex2
       have HE1:=hQ he1
       have HE2:=hQ he2
       obtain ⟨X,hX⟩:∃ X,X=Qcl n (Qbu k):=⟨_,rfl⟩
       have HX:=hQ hX
       have HU5:=hQ hu5
       have HBX:=hQ (hb5.alloc hb5.size (trO u5))
       obtain ⟨xk,xx,xla,xll,xlc,xka,xkl,xkc⟩:=u5
       have HX5:=hQ (xH w5 (trO ⟨xk,xx,xla,xll,xlc,xka,xkl,xkc⟩))
       clear hu5 hb5 hn hex hf0 hex2 he1 he2 hE hX n0 n1 n2 n3 nl hnb hk
       go_wp2_with fail
       go_at_call 14
       refine (Qlg _ _ (some ⟨b,off,none⟩) c1 ps 0 (Qcl n (Qbu k)) ⟨xk,xx,xla,xll,xlc,xka,xkl,xkc⟩ _ (HR.out.keep (HB4.out.trans (HBX.out.mono HB4.out.size))) HF.out HW.out HZ.out HZL.out (HU5.out.keep (Qc3 w5 _)) (Qfz _ (Qql k n)) (Qi8 k n) (by rw [Qhq];have:=HNB.out;omega) ((Qfq HK.out n).2.trans (Qfq HK.out n).1.symm)).mono ?_
       rintro e w6 ⟨u6,rfl,hu6,hb6⟩
       rw [HEX2.out] at hu6
       rw [HF0.out]
       obtain ⟨yk,yx,yla,yll,ylc,yka,ykl,ykc⟩:=u6
       have HU6:=hQ hu6
       have HX6:=hQ ((hb6.block _ (Qaa HX5.out)).trans HX5.out)
       have HB6:=hQ (HBX.out.trans (hb6.mono HBX.out.size))
       have HB56:=hQ ((Qc3 w5 (trO ⟨xk,xx,xla,xll,xlc,xka,xkl,xkc⟩)).trans (hb6.mono (by rw [xI];omega)))
       have HB6A:=hQ (Qc3 w6 (trO ⟨yk,yx,yla,yll,ylc,yka,ykl,ykc⟩))
       have HY6:=hQ (xH w6 (trO ⟨yk,yx,yla,yll,ylc,yka,ykl,ykc⟩))
       have x0:w6.cell? ⟨w5.heap.size,0,none⟩=some (.int .i64 xk):=Qab HX6.out 0 _ rfl
       have x1:w6.cell? ⟨w5.heap.size,1,none⟩=some (.string xx):=Qab HX6.out 1 _ rfl
       have x2:w6.cell? ⟨w5.heap.size,2,none⟩=some (.slice xla xll xlc):=Qab HX6.out 2 _ rfl
       have x3:w6.cell? ⟨w5.heap.size,3,none⟩=some (.slice xka xkl xkc):=Qab HX6.out 3 _ rfl
       have xl:=Qaa HX6.out
       obtain ⟨L,hL⟩:∃ L,L=n+1:=⟨_,rfl⟩
       have HL:=hQ hL
       clear hL
       have HCN:=hQ (show Calls Tryz.prog 23 #[.agg #[.int .i64 xk,.string xx,.slice xla xll xlc,.slice xka xkl xkc]] (w6.alloc (trO ⟨yk,yx,yla,yll,ylc,yka,ykl,ykc⟩)) fun e w'=>∃ A c,e = .returned (.slice A L c)∧NR (fun b=>b<w5.heap.size) (w6.alloc (trO ⟨yk,yx,yla,yll,ylc,yka,ykl,ykc⟩)).heap.size w' (.slice A L c) (Qf0 (Qcl n (Qbu k)))∧Below (w6.alloc (trO ⟨yk,yx,yla,yll,ylc,yka,ykl,ykc⟩)).heap.size (w6.alloc (trO ⟨yk,yx,yla,yll,ylc,yka,ykl,ykc⟩)) w' from by
        have h:=Qsi (n+1) (fun b=>b<w5.heap.size) (Qcl n (Qbu k)) ⟨xk,xx,xla,xll,xlc,xka,xkl,xkc⟩ (w6.alloc (trO ⟨yk,yx,yla,yll,ylc,yka,ykl,ykc⟩)) (by rw [Qhq];exact xA _) (by have:=HNB.out;omega) (fun b hb=>by rw [xI];omega) (TrAt.move (fun b hb=>hb.2) (fun _ _ _=>rfl) _ _ ((HU5.out.keep HB56.out).keep HB6A.out))
        rw [Qhq,←HL.out] at h
        exact h)
       clear hu6 hb6
       go_wp2_with fail
       go_at_call 23
       refine HCN.out.mono ?_
       rintro e w7 ⟨IA,ic,rfl,hin,hb7⟩
       obtain ⟨-,g7,-,hIA,-⟩:=hin.at (j:=0) (k:=Qcl n (Qbu k)) (by rw [Qnq];rfl)
       subst hIA
       have HIN:=hQ hin
       have HB67:=hQ (HB6A.out.trans (hb7.mono HB6A.out.size))
       have HY7:=hQ ((hb7.block _ (Qaa HY6.out)).trans HY6.out)
       have HX7:=hQ ((HB67.out.block _ xl).trans HX6.out)
       clear x0 x1 x2 x3 xl hin hb7
       go_wp2_with fail
       go_loopw [12] (fun i wr=>∃ e:Nat,i = .int .i64 (e:Int)∧e≤L∧Below w7.heap.size w7 wr) (fun i _=>L-(intOf i).toNat)
       case atStart=>exact ⟨0,rfl,xZ _,xC _ _⟩
       case round =>
        obtain ⟨e,rfl,he,hb⟩:=hrel
        have HB8:=hQ hb
        clear hb
        by_cases hel:e<L
        ·obtain ⟨a,ha⟩:∃ a,(Qf0 (Qcl n (Qbu k)))[e]? = some a:=⟨_,xF (by rw [Qeu,Qhq,←HL.out];exact hel)⟩
         obtain ⟨ha1,ha2⟩:=Qo6 HK.out n a (yA ha)
         obtain ⟨-,-,v,m0,-,m2,-,hv⟩:=(HIN.out.later HB8.out).in ha
         have v0:=hv.kl.2.2.1
         have v1:=hv.kl.2.1
         rw [ha2] at v1
         rw [v0] at m0
         have v2:v.ll=0:=v1
         rw [v2] at m2
         have ml:=xK wr _ m0
         have b9:=Qck ha1
         have e0:(0:Int)≤(e:Int):=by omega
         have e1:(e:Int)<(L:Int):=by omega
         have e2:(e:Int)+1≤1057353:=by have:=HNB.out;have:=HL.out;omega
         clear ha ha1 ha2 hv v0 v1 v2
         go_wp2_with fail
         go_roundw
         case measure=>first | (simp [intOf];done) | (simp [intOf];omega)
         case rel=>exact ⟨e+1,rfl,by omega,HB8.out⟩
        ·have hne:¬ (e:Int)<(L:Int):=by omega
         go_upto_region 20 with fail
         obtain ⟨w8,hw8⟩:∃ w',w'=wr:=⟨_,rfl⟩
         subst hw8
         have HW68:=hQ (HB67.out.trans (HB8.out.mono HB67.out.size))
         have HB58:=hQ (HB56.out.trans (HW68.out.mono HB56.out.size))
         have HB48:=hQ (HB6.out.trans (HW68.out.mono HB6.out.size))
         have HB18:=hQ (HB4.out.trans (HB48.out.mono HB4.out.size))
         have HX8:=hQ ((HB8.out.block _ (Qaa HX7.out)).trans HX7.out)
         have HY8:=hQ ((HB8.out.block _ (Qaa HY7.out)).trans HY7.out)
         have HXU:=hQ (HU5.out.keep HB58.out)
         have HYU:=hQ (HU6.out.keep HW68.out)
         have HTU:=hQ (HUT.out.keep HB48.out)
         have HXT:=hQ (Qfz _ (Qql k n))
         have HXS:=hQ ((Qfq HK.out n).2.trans (Qfq HK.out n).1.symm)
         have HXZ:=hQ (show Qah (Qcl n (Qbu k))≤2000000 from by rw [Qhq];have:=HNB.out;omega)
         have HSAME:=hQ (fun (w':World) (hb:Below w8.heap.size w8 w')=>Zac _ _ _ (Qcl n (Qbu k)) (Qcl n (Qbu k)) ⟨xk,xx,xla,xll,xlc,xka,xkl,xkc⟩ ⟨yk,yx,yla,yll,ylc,yka,ykl,ykc⟩ w' (xA _) (HXU.out.keep hb) (HYU.out.keep hb) HXT.out)
         rw [Qsl] at HSAME
         have HEQ1:=hQ (fun (w':World) (hb:Below w8.heap.size w8 w')=>Qsh _ _ _ (some ⟨b,off,none⟩) c1 ps (q:Int) 0 t (Qcl n (Qbu k)) u ⟨xk,xx,xla,xll,xlc,xka,xkl,xkc⟩ w' (HR.out.keep (HB18.out.trans (hb.mono HB18.out.size))) HF.out HW.out HZ.out HZL.out (HTU.out.keep hb) HTS.out HTWD.out (xQ HT3.out (by decide)) HSS.out (HXU.out.keep hb) HXT.out (Qi8 k n) HXZ.out HXS.out)
         rw [HE1.out] at HEQ1
         have HEQ2:=hQ (fun (w':World) (hb:Below w8.heap.size w8 w')=>Qsh _ _ _ (some ⟨b,off,none⟩) c1 ps 0 (q:Int) (Qcl n (Qbu k)) t ⟨xk,xx,xla,xll,xlc,xka,xkl,xkc⟩ u w' (HR.out.keep (HB18.out.trans (hb.mono HB18.out.size))) HF.out HW.out HZ.out HZL.out (HXU.out.keep hb) HXT.out (Qi8 k n) HXZ.out HXS.out (HTU.out.keep hb) HTS.out HTWD.out (xQ HT3.out (by decide)) HSS.out)
         rw [HE2.out] at HEQ2
         have HLAY:=hQ (fun (w':World) (hb:Below w8.heap.size w8 w')=>Zj3 hb HX8.out HY8.out HB48.out HUN.out)
         obtain ⟨x0,x1,x2,x3,y0,y1,y2,y3,n0,n1,n2,n3,xl,yl,nl⟩:=HLAY.out w8 (xC _ _)
         have mixedL:Tryz.prog.follows Departure.mixedOrders=true:=Zkh
         go_region_held3 (fun w'=>w'.cell? ⟨w5.heap.size,0,none⟩=some (.int .i64 xk)∧w'.cell? ⟨w5.heap.size,1,none⟩=some (.string xx)∧w'.cell? ⟨w5.heap.size,2,none⟩=some (.slice xla xll xlc)∧w'.cell? ⟨w5.heap.size,3,none⟩=some (.slice xka xkl xkc)∧w'.cell? ⟨w6.heap.size,0,none⟩=some (.int .i64 yk)∧w'.cell? ⟨w6.heap.size,1,none⟩=some (.string yx)∧w'.cell? ⟨w6.heap.size,2,none⟩=some (.slice yla yll ylc)∧w'.cell? ⟨w6.heap.size,3,none⟩=some (.slice yka ykl ykc)∧w'.cell? ⟨g3,d*4,none⟩=some (.int .i64 u.kind)∧w'.cell? ⟨g3,d*4+1,none⟩=some (.string u.text)∧w'.cell? ⟨g3,d*4+2,none⟩=some (.slice u.la u.ll u.lc)∧w'.cell? ⟨g3,d*4+3,none⟩=some (.slice u.ka u.kl u.kc)) (first | with_reducible exact ⟨x0,x1,x2,x3,y0,y1,y2,y3,n0,n1,n2,n3⟩ | go_keep) (first
          | (go_at_call 16;refine (HSAME.out _ (xC _ _).drew).mono ?_;rintro e w9 ⟨rfl,hb9⟩;have HB9:=hQ ((show Below w8.heap.size w8 _ from (xC _ _).drew).trans hb9);clear hb9 x0 x1 x2 x3 y0 y1 y2 y3 n0 n1 n2 n3 xl yl nl;obtain ⟨x0,x1,x2,x3,y0,y1,y2,y3,n0,n1,n2,n3,xl,yl,nl⟩:=HLAY.out w9 HB9.out)
          | (go_at_call 19;refine (HEQ1.out _ HB9.out).mono ?_;rintro e w10 ⟨rfl,hb9⟩;have HB10:=hQ (HB9.out.trans (hb9.mono HB9.out.size));clear hb9 HB9 x0 x1 x2 x3 y0 y1 y2 y3 n0 n1 n2 n3 xl yl nl;obtain ⟨x0,x1,x2,x3,y0,y1,y2,y3,n0,n1,n2,n3,xl,yl,nl⟩:=HLAY.out w10 HB10.out)
          | (go_at_call 19;refine (HEQ2.out _ HB10.out).mono ?_;rintro e w11 ⟨rfl,hb9⟩;have HB11:=hQ (HB10.out.trans (hb9.mono HB10.out.size));clear hb9 x0 x1 x2 x3 y0 y1 y2 y3 n0 n1 n2 n3 xl yl nl;obtain ⟨x0,x1,x2,x3,y0,y1,y2,y3,n0,n1,n2,n3,xl,yl,nl⟩:=HLAY.out w11 HB11.out))
         all_goals
          clear x0 x1 x2 x3 y0 y1 y2 y3 n0 n1 n2 n3
          go_wp2
          go_roundw
          case measure=>first | (simp [intOf];done) | (simp [intOf];omega)
          case rel=>exact ⟨d+1,rfl,by omega,HBQ.out.trans ((HB48.out.trans (HB11.out.mono HB48.out.size)).mono HBQ.out.size)⟩
      ·have b0:=Zk3 hE
       have b1:=Qck hE
       clear hu5 hb5
       go_wp2_with fail
       go_roundw
       case measure=>first | (simp [intOf];done) | (simp [intOf];omega)
       case rel=>exact ⟨d+1,rfl,by omega,HBQ.out.trans ((HB5.out.alloc HB5.out.size _).mono HBQ.out.size)⟩
     ·have hde:¬ (d:Int)<(Qah T:Int):=by omega
      go_wp2_with fail
      go_roundw
      case measure=>first | (simp [intOf];done) | (simp [intOf];omega)
      case rel=>exact ⟨q+1,rfl,by omega,HB3.out.trans (HBQ.out.mono HB3.out.size)⟩
   ·have hqe:¬ (q:Int)<(ps.length:Int):=by omega
    go_wp2_with fail
    go_at_call 13
    refine (Qsu _).mono ?_
    rintro e w7 ⟨rfl,hb7⟩
    have HB7:=hQ (HBR.out.trans (hb7.mono HBR.out.size))
    clear hb7
    go_wp2_with fail
    go_at_call 24
    refine (Qt5 _ A1 c1 ps w7 (HR.out.keep HB7.out) (Qfz _ HF.out) HZ.out HW.out).mono ?_
    rintro e w8 ⟨rfl,hb8⟩
    rw [HG.out]
    have HB8:=hQ (HB.out.trans ((HB7.out.trans (hb8.mono HB7.out.size)).mono HB.out.size))
    clear hb8
    go_wp2_with fail
    go_ret
    exact ⟨rfl,HB8.out⟩
 ·have d0:=xR hl
  clear hl hx
  go_enter Tryz.func5,Tryz.ntmps5
  go_wp2_with (first | (go_at_call 21;refine (Qsv _ _ _ _).mono ?_;rintro e w0 ⟨rfl,h0⟩;rw [h0];clear h0 w0) | fail)
  go_at_call 13
  refine (Qsu _).mono ?_
  rintro e w7 ⟨rfl,hb7⟩
  have HB7:=hQ hb7
  clear hb7
  go_wp2_with fail
  go_ret
  exact ⟨rfl,HB7.out⟩
end Go.Proofs.YtclkilljmdkfaaaGreat
