/- Part 37 -/
import Derived.Test.YtfjpemdejoejbaaGreatSg36
import Derived.Test.YtfjpemdejoejbaaGreatSg28
set_option maxRecDepth 100000
set_option maxHeartbeats 4000000
namespace Go.Proofs.YtfjpemdejoejbaaGreat
open Go.RowKit
mutual
def OwnT (w:World):Tr→TV→Nat→Nat→Prop
 | .mk k x ls ks,v,lo,hi=>v.kind=k∧v.text=x∧v.ll=ls.length∧v.kl=ks.length∧(v.ll≤v.lc∧v.kl≤v.kc)∧∃ g,lo≤g∧g≤hi∧StrsAt (fun b=>lo≤b∧b<g) w v.la ls ∧
  (ks≠[]→v.ka=some ⟨g,0,none⟩∧∃ (cs:Array Value) (us:List TV),w.heap[g]? = some (.cells cs 25 (0,0))∧us.length=ks.length∧RowIs cs us∧OwnL w ks us (g+1) hi)
def OwnL (w:World):List Tr→List TV→Nat→Nat→Prop
 | [],_,lo,hi=>lo≤hi
 | _ :: _,[],_,_=>False
 | t :: r,u :: us,lo,hi=>∃ m n,lo≤m∧m≤n∧OwnT w t u m n∧OwnL w r us n hi
end
theorem OwnT.le {w:World} {t:Tr} {v:TV} {lo hi:Nat} (h:OwnT w t v lo hi):lo≤hi:=by
 cases t
 unfold OwnT at h;obtain ⟨_,_,_,_,_,g,h1,h2,_⟩:=h;omega
theorem OwnL.le {w:World}:{l:List Tr}→{us:List TV}→{lo hi:Nat}→OwnL w l us lo hi→lo≤hi
 | [],_,_,_,h=>by unfold OwnL at h;exact h
 | _ :: _,[],_,_,h=>by unfold OwnL at h;exact h.elim
 | t :: r,u :: us,lo,hi,h=>by
  unfold OwnL at h;obtain ⟨m,n,h1,h2,_,h4⟩:=h;have:=OwnL.le h4
  omega
mutual
theorem OwnT.move {w w':World}:(t:Tr)→(v:TV)→(lo hi:Nat)→(∀ b,lo≤b→b<hi→b<w.heap.size→w'.heap[b]? = w.heap[b]?)→OwnT w t v lo hi→OwnT w' t v lo hi
 | .mk k x ls ks,v,lo,hi,hw,h=>by
  unfold OwnT at h ⊢;obtain ⟨h1,h2,h3,h4,h5,g,hg1,hg2,hl,hk⟩:=h;refine ⟨h1,h2,h3,h4,h5,g,hg1,hg2,hl.move (fun _ h=>h) (fun b hb hlt=>hw b hb.1 (by omega) hlt),fun hne=>?_⟩;obtain ⟨ha,cs,us,hc,hu,hr,ho⟩:=hk hne;have:=ho.le
  exact ⟨ha,cs,us,(hw g hg1 (by omega) (Qaa hc)).trans hc,hu,hr,OwnL.move ks us (g+1) hi (fun b h1 h2 h3=>hw b (by omega) h2 h3) ho⟩
theorem OwnL.move {w w':World}:(l:List Tr)→(us:List TV)→(lo hi:Nat)→(∀ b,lo≤b→b<hi→b<w.heap.size→w'.heap[b]? = w.heap[b]?)→OwnL w l us lo hi→OwnL w' l us lo hi
 | [],_,_,_,_,h=>by unfold OwnL at h ⊢;exact h
 | _ :: _,[],_,_,_,h=>by unfold OwnL at h;exact h.elim
 | t :: r,u :: us,lo,hi,hw,h=>by
  unfold OwnL at h ⊢;obtain ⟨m,n,h1,h2,h3,h4⟩:=h;have:=OwnL.le h4
  exact ⟨m,n,h1,h2,OwnT.move t u m n (fun b h1 h2 h3=>hw b (by omega) (by omega) h3) h3,OwnL.move r us n hi (fun b h1 h2 h3=>hw b (by omega) h2 h3) h4⟩
end
theorem OwnL.snoc {w:World} {t:Tr} {u:TV} {m n:Nat}:{l:List Tr}→{us:List TV}→{lo hi:Nat}→OwnL w l us lo hi→us.length=l.length→hi≤m→OwnT w t u m n→OwnL w (l ++ [t]) (us ++ [u]) lo n
 | [],[],lo,hi,h,_,hm,ht=>by
  unfold OwnL at h;have:=ht.le
  show OwnL w [t] [u] lo n
  unfold OwnL;exact ⟨m,n,by omega,this,ht,by unfold OwnL;exact xA _⟩
 | [],_ :: _,_,_,_,hl,_,_=>by simp at hl
 | _ :: _,[],_,_,h,_,_,_=>by unfold OwnL at h;exact h.elim
 | a :: r,b :: us,lo,hi,h,hl,hm,ht=>by
  unfold OwnL at h;obtain ⟨m',n',h1,h2,h3,h4⟩:=h
  show OwnL w (a :: (r ++ [t])) (b :: (us ++ [u])) lo n
  unfold OwnL;exact ⟨m',n',h1,h2,h3,OwnL.snoc h4 (by simpa using hl) hm ht⟩
theorem OwnL.get {w:World}:(l:List Tr)→(us:List TV)→(lo hi:Nat)→OwnL w l us lo hi→(i:Nat)→(k:Tr)→(u:TV)→l[i]? = some k→us[i]? = some u →
  ∃ m n,lo≤m∧m≤n∧n≤hi∧OwnT w k u m n∧∀ (j:Nat) (k':Tr) (u':TV),j≠i→l[j]? = some k'→us[j]? = some u'→∃ m' n',lo≤m'∧n'≤hi∧OwnT w k' u' m' n'∧(n'≤m∨n≤m')
 | [],_,_,_,_,i,k,u,hk,_=>by simp at hk
 | _ :: _,[],_,_,h,_,_,_,_,_=>by unfold OwnL at h;exact h.elim
 | t :: r,v :: us,lo,hi,h,i,k,u,hk,hu=>by
  unfold OwnL at h;obtain ⟨m,n,h1,h2,h3,h4⟩:=h;have h5:=h4.le;cases i with
  | zero =>
   simp at hk hu
   subst hk hu;refine ⟨m,n,h1,h2,h5,h3,fun j k' u' hj hk' hu'=>?_⟩;cases j with
   | zero=>exact absurd rfl hj
   | succ j =>
    obtain ⟨m',n',q1,q2,q3,q4,_⟩:=OwnL.get r us n hi h4 j k' u' (by simpa using hk') (by simpa using hu');exact ⟨m',n',by omega,q3,q4,.inr q1⟩
  | succ i =>
   obtain ⟨m',n',q1,q2,q3,q4,q5⟩:=OwnL.get r us n hi h4 i k u (by simpa using hk) (by simpa using hu);refine ⟨m',n',by omega,q2,q3,q4,fun j k' u' hj hk' hu'=>?_⟩;cases j with
   | zero =>
    simp at hk' hu'
    subst hk' hu';exact ⟨m,n,h1,h5,h3,.inl q1⟩
   | succ j =>
    obtain ⟨m2,n2,p1,p2,p3,p4⟩:=q5 j k' u' (fun e=>hj (by omega)) (by simpa using hk') (by simpa using hu');exact ⟨m2,n2,by omega,p2,p3,p4⟩
theorem RowIs.at {w:World} {g:Nat} {cs:Array Value} {us:List TV} (hc:w.heap[g]? = some (.cells cs 25 (0,0))) (h:RowIs cs us) {i:Nat} {u:TV} (hu:us[i]? = some u):CellsAt w g (i*4) u:=by
 obtain ⟨q0,q1,q2,q3⟩:=h i u hu;exact ⟨Qab hc _ _ q0,Qab hc _ _ q1,Qab hc _ _ q2,Qab hc _ _ q3⟩
theorem OwnT.tr {w:World}:(N:Nat)→(t:Tr)→(v:TV)→(lo hi:Nat)→SizeOf.sizeOf t≤N→OwnT w t v lo hi→TrAt (fun b=>lo≤b∧b<hi) w t v
 | 0,t,_,_,_,hN,_=>by have:=Qgu t;omega
 | N+1,.mk k x ls ks,v,lo,hi,hN,h=>by
  unfold OwnT at h;obtain ⟨h1,h2,h3,h4,h5,g,hg1,hg2,hl,hk⟩:=h;unfold TrAt;refine ⟨h1,h2,h3,h4,hl.move (fun b hb=>⟨hb.1,by omega⟩) (fun _ _ _=>rfl),fun hne=>?_,h5⟩;obtain ⟨ha,cs,us,hc,hu,hr,ho⟩:=hk hne;have hle:=ho.le;refine ⟨g,0,ha,⟨hg1,by omega⟩,TrsAt.of ks 0 fun i t ht=>?_⟩;obtain ⟨u,hui⟩:∃ u,us[i]? = some u:=⟨_,xF (by rw [hu];exact (xP.1 ht).1)⟩;obtain ⟨c0,c1,c2,c3⟩:=RowIs.at hc hr hui;obtain ⟨m,n,q1,q2,q3,q4,_⟩:=ho.get ks us (g+1) hi i t u ht hui;rw [Nat.zero_add];exact ⟨u,c0,c1,c2,c3,TrAt.move (fun b hb=>⟨by omega,by omega⟩) (fun _ _ _=>rfl) t u (OwnT.tr N t u m n (by have:=Qa0 (t:=.mk k x ls ks) ht;omega) q4)⟩
def Qq8 (w:World) (b o:Nat) (y:TV):World:=(((w.setCell ⟨b,o,none⟩ (.int .i64 y.kind)).setCell ⟨b,o+1,none⟩ (.string y.text)).setCell ⟨b,o+2,none⟩ (.slice y.la y.ll y.lc)).setCell ⟨b,o+3,none⟩ (.slice y.ka y.kl y.kc)
def Zeh (cs:Array Value) (o:Nat) (y:TV):Array Value:=(((cs.setIfInBounds o (.int .i64 y.kind)).setIfInBounds (o+1) (.string y.text)).setIfInBounds (o+2) (.slice y.la y.ll y.lc)).setIfInBounds (o+3) (.slice y.ka y.kl y.kc)
theorem Qip {w:World} {b:Nat} {cs:Array Value} {T:TypeId} (o:Nat) (y:TV) (h:w.heap[b]? = some (.cells cs T (0,0))):(Qq8 w b o y).heap[b]? = some (.cells (Zeh cs o y) T (0,0)):=Qay (Qay (Qay (Qay h rfl) rfl) rfl) rfl
theorem Qcp {w:World} {b k:Nat} (o:Nat) (y:TV) (h:k≠b):(Qq8 w b o y).heap[k]? = w.heap[k]?:=(((Qao h).trans (Qao h)).trans (Qao h)).trans (Qao h)
theorem Qiq (w:World) (b o:Nat) (y:TV):(Qq8 w b o y).heap.size=w.heap.size:=by simp [Qq8,World.setCell]
theorem Qn9 (w:World) {B b:Nat} (o:Nat) (y:TV) (h:B≤b):Below B w (Qq8 w b o y):=((((xC B w).setCell (p:=⟨b,o,none⟩) h _).setCell (p:=⟨b,o+1,none⟩) h _).setCell (p:=⟨b,o+2,none⟩) h _).setCell (p:=⟨b,o+3,none⟩) h _
theorem Za3 (cs:Array Value) (o:Nat) (y:TV):(Zeh cs o y).size=cs.size:=by simp [Zeh]
theorem Qhj (cs:Array Value) (o:Nat) (y:TV) (q:Nat) (h:q<o∨o+4≤q):(Zeh cs o y)[q]? = cs[q]?:=by
 unfold Zeh;rw [xY (by omega),xY (by omega),xY (by omega),xY (by omega)]
theorem Qw8 {w:World} {b:Nat} {cs:Array Value} {T:TypeId} (o:Nat) (y:TV) (h:w.heap[b]? = some (.cells cs T (0,0))) (ho:o+4≤cs.size):CellsAt (Qq8 w b o y) b o y:=by
 have hh:=Qip o y h
 refine ⟨Qab hh _ _ ?_,Qab hh _ _ ?_,Qab hh _ _ ?_,Qab hh _ _ ?_⟩ <;> unfold Zeh
 ·rw [xY (by omega),xY (by omega),xY (by omega),Array.getElem?_setIfInBounds_self_of_lt (by omega)]
 ·rw [xY (by omega),xY (by omega),Array.getElem?_setIfInBounds_self_of_lt (by simp;omega)]
 ·rw [xY (by omega),Array.getElem?_setIfInBounds_self_of_lt (by simp;omega)]
 ·rw [Array.getElem?_setIfInBounds_self_of_lt (by simp;omega)]
theorem Za4 {w:World} {b:Nat} {cs:Array Value} {T:TypeId} (o:Nat) (y:TV) (h:w.heap[b]? = some (.cells cs T (0,0))) (q:Nat) (hq:q<o∨o+4≤q):(Qq8 w b o y).cell? ⟨b,q,none⟩=w.cell? ⟨b,q,none⟩:=by
 rw [Lib.cell_of_heap (Qip o y h),Lib.cell_of_heap h];exact Qhj cs o y q hq
theorem CellsAt.inj {w:World} {b o:Nat} {y z:TV} (h:CellsAt w b o y) (k:CellsAt w b o z):y=z:=by
 obtain ⟨a0,a1,a2,a3⟩:=h;obtain ⟨b0,b1,b2,b3⟩:=k;have e0:=Option.some.inj (a0.symm.trans b0);have e1:=Option.some.inj (a1.symm.trans b1);have e2:=Option.some.inj (a2.symm.trans b2);have e3:=Option.some.inj (a3.symm.trans b3);cases y
 cases z
 simp only [Value.int.injEq,Value.string.injEq,Value.slice.injEq,true_and] at e0 e1 e2 e3;obtain ⟨e20,e21,e22⟩:=e2;obtain ⟨e30,e31,e32⟩:=e3;subst e0 e1 e20 e21 e22 e30 e31 e32;rfl
inductive Walks (w:World):Nat→Nat→TV→List Int→Nat→Nat→Prop
 | here (pb po:Nat) (v:TV):Walks w pb po v [] pb po
 | kid {pb po:Nat} {v:TV} {g ko:Nat} {z:Int} {u:TV} {r:List Int} {b o:Nat} (ha:v.ka=some ⟨g,ko,none⟩) (hc:CellsAt w g (ko+z.toNat*4) u) (hr:Walks w g (ko+z.toNat*4) u r b o):Walks w pb po v (z :: r) b o
def Qpu:List Int→Tr→Tr→Option Tr
 | [],_,u=>some u
 | z :: r,t,u=>if Qjn t z then (Qpu r (Qep t z) u).map fun k=>.mk t.kind t.text t.leads (t.kids.set z.toNat k) else none
theorem Qpm (u:Tr):∀ (zs:List Int) (t:Tr),(Qpu zs t u).isSome=(Qaz t zs).isSome
 | [],t=>by unfold Qpu Qaz;rfl
 | z :: r,t=>by
  unfold Qpu Qaz
  cases Qjn t z
  ·rfl
  ·simp only [if_true,Option.isSome_map];exact Qpm u r (Qep t z)
theorem Za5 (u:Tr) (y:TV) (S:Nat→Prop):∀ (zs:List Int) (t t':Tr) (v:TV) (lo hi pb po b o:Nat) (w:World) (cs:Array Value) (T:TypeId),Qpu zs t u=some t'→OwnT w t v lo hi→CellsAt w pb po v→Walks w pb po v zs b o →
  w.heap[pb]? = some (.cells cs T (0,0))→po+4≤cs.size→¬ (lo≤pb∧pb<hi)→TrAt S w u y→(∀ k,S k→¬ (lo≤k∧k<hi)∧k≠pb) →
  (b=pb∧o=po∨lo≤b∧b<hi)∧∃ v',CellsAt (Qq8 w b o y) pb po v'∧TrAt (fun k=>lo≤k∧k<hi∨S k) (Qq8 w b o y) t' v'
 | [],t,t',v,lo,hi,pb,po,b,o,w,cs,T,hp,hO,hC,hW,hb,hs,hn,hT,hS=>by
  cases hW
  unfold Qpu at hp;injection hp with hp;subst hp;exact ⟨.inl ⟨rfl,rfl⟩,y,Qw8 po y hb hs,TrAt.move (fun _ h=>.inr h) (fun k hk _=>Qcp po y (hS k hk).2) _ _ hT⟩
 | z :: r,.mk k x ls ks,t',v,lo,hi,pb,po,b,o,w,cs,T,hp,hO,hC,hW,hb,hs,hn,hT,hS=>by
  unfold Qpu at hp
  cases hkb:Qjn (.mk k x ls ks) z
  ·rw [hkb] at hp;cases hp
  rw [hkb] at hp;simp only [if_true] at hp;obtain ⟨z0,z1,z2⟩:=Qd7 hkb
  change ks[z.toNat]? = some _ at z2
  obtain ⟨k',hk',rfl⟩:=Option.map_eq_some_iff.1 hp;have hne:ks≠[]:=fun e=>by rw [e] at z2;simp at z2
  unfold OwnT at hO;obtain ⟨h1,h2,h3,h4,h5,g,hg1,hg2,hl,hk⟩:=hO;obtain ⟨ha,cs',us,hc,hu,hrow,ho⟩:=hk hne;have hle:=ho.le;obtain ⟨u0,hu0⟩:∃ u,us[z.toNat]? = some u:=⟨_,xF (by rw [hu];exact (xP.1 z2).1)⟩;obtain ⟨m,n,q1,q2,q3,q4,q5⟩:=ho.get ks us (g+1) hi z.toNat _ u0 z2 hu0;have hcu:=RowIs.at hc hrow hu0;cases hW with
  | kid ha' hc' hr' =>
   rename_i g' ko' u'
   rw [ha] at ha';injection ha' with e;injection e with e1 e2 _;subst e1 e2;rw [Nat.zero_add] at hc' hr';obtain rfl:=hcu.inj hc'
   have hsz:z.toNat*4+4≤cs'.size:=by
    obtain ⟨_,_,_,r3⟩:=hrow z.toNat _ hu0;have:=(Array.getElem?_eq_some_iff.1 r3).1
    omega
   obtain ⟨hbo,v',hcv,htv⟩:=Za5 u y S r (Qep (.mk k x ls ks) z) k' u0 m n g (z.toNat*4) b o w cs' _ hk' q4 hcu hr' hc hsz (by omega) hT (fun j hj=>⟨fun h=>(hS j hj).1 ⟨by omega,by omega⟩,fun e=>(hS j hj).1 ⟨by omega,by omega⟩⟩);have hbr:g≤b∧b<hi:=by rcases hbo with ⟨rfl,_⟩|⟨h1,h2⟩ <;> omega
   refine ⟨.inr ⟨by omega,hbr.2⟩,v,?_,?_⟩
   ·have hpb:pb≠b:=fun e=>hn ⟨by omega,by omega⟩
    have hk:∀ i,(Qq8 w b o y).cell? ⟨pb,i,none⟩=w.cell? ⟨pb,i,none⟩:=fun i=>xJ (w:=w) (a:=⟨pb,i,none⟩) (Qcp o y hpb)
    exact ⟨(hk _).trans hC.1,(hk _).trans hC.2.1,(hk _).trans hC.2.2.1,(hk _).trans hC.2.2.2⟩
   ·show TrAt _ _ (.mk k x ls (ks.set z.toNat k')) v
    unfold TrAt;refine ⟨h1,h2,h3,by rw [List.length_set];exact h4,hl.move (fun j hj=>.inl ⟨hj.1,by omega⟩) (fun j hj _=>Qcp o y (by omega)),fun _=>⟨g,0,ha,.inl ⟨hg1,by omega⟩,TrsAt.of _ 0 fun i t ht=>?_⟩,h5⟩;rw [Nat.zero_add]
    by_cases hi':i=z.toNat
    ·subst hi';rw [List.getElem?_set_self (xP.1 z2).1] at ht;injection ht with ht;subst ht;exact ⟨v',hcv.1,hcv.2.1,hcv.2.2.1,hcv.2.2.2,TrAt.move (fun j hj=>hj.imp (fun h=>⟨by omega,by omega⟩) id) (fun _ _ _=>rfl) _ _ htv⟩
    ·rw [List.getElem?_set_ne (fun e=>hi' e.symm)] at ht;obtain ⟨ui,hui⟩:∃ u,us[i]? = some u:=⟨_,xF (by rw [hu];exact (xP.1 ht).1)⟩;obtain ⟨m',n',p1,p2,p3,p4⟩:=q5 i t ui hi' ht hui;have hci:=RowIs.at hc hrow hui
     have hcell:∀ c,c<4→(Qq8 w b o y).cell? ⟨g,i*4+c,none⟩=w.cell? ⟨g,i*4+c,none⟩:=fun c hc4=>by
      rcases hbo with ⟨rfl,rfl⟩|⟨hb1,hb2⟩
      ·exact Za4 (z.toNat*4) y hc (i*4+c) (by rcases Nat.lt_or_gt_of_ne hi' with h | h <;> omega)
      ·exact xJ (w:=w) (a:=⟨g,i*4+c,none⟩) (Qcp (k:=g) o y (by omega))
     refine ⟨ui,(hcell 0 (by omega)).trans hci.1,(hcell 1 (by omega)).trans hci.2.1,(hcell 2 (by omega)).trans hci.2.2.1,(hcell 3 (by omega)).trans hci.2.2.2,?_⟩;have:=p3.le
     exact TrAt.move (fun j hj=>.inl ⟨by omega,by omega⟩) (fun j hj _=>Qcp o y (by rcases hbo with ⟨rfl,_⟩ | _ <;> omega)) _ _ (OwnT.tr _ t ui m' n' (xA _) p3)
end Go.Proofs.YtfjpemdejoejbaaGreat
namespace Go.Proofs.YtfjpemdejoejbaaGreat
open Go.RowKit Go.Shelf
theorem Zbg {n:Int} (h:0≤n):Qau 1 n=3:=by
 unfold Qau;rw [xO rfl,xO h]
theorem Qxh {n:Int} (h:0≤Qau 2 n):6≤Qau 2 n:=by
 unfold Qau at h ⊢;rw [xN (by decide),xO rfl] at h ⊢
 split at h <;> (rw [Int.max_def] at *;repeat' split) <;> omega
theorem Zbh {k n:Int} (hk:k=4∨k=8∨k=22) (h:0≤Qau k n):Qau k n=2:=by
 rcases hk with rfl | rfl | rfl <;> (unfold Qau Qbd at h ⊢;simp at h ⊢;omega)
theorem Qxi {k n:Int} (hk:k≠17) (h:0≤Qau k n):1≤Qau k n:=by
 unfold Qau Qbd at h ⊢;simp only [Int.max_def] at h ⊢
 repeat' split at h
 all_goals first | omega | (simp_all;done) | (simp_all;omega)
theorem Qxj {k n:Int} (h:0≤n):Qau k n≤n+6:=by
 unfold Qau Qbd;simp only [Int.max_def]
 repeat' split
 all_goals omega
theorem Qln (k:Int) (n:Nat):∀ (l:List Tr) (i j:Nat) (a:Tr),Qcq k n i l=true→l[j]? = some a→Qcy a=true
 | [],_,j,a,_,h=>by simp at h
 | t :: r,i,j,a,hs,h=>by
  rw [Qcq,Bool.and_eq_true,Bool.and_eq_true] at hs;cases j with
  | zero=>simp at h;subst h;exact hs.1.2
  | succ j=>exact Qln k n r (i+1) j a hs.2 (by simpa using h)
theorem Qkh {t:Tr} (h:Qcy t=true):0≤Qau t.kind t.kids.length∧∀ (j:Nat) (k:Tr),t.kids[j]? = some k→Qcy k=true:=by
 rw [Qhi,Bool.and_eq_true,Bool.and_eq_true] at h;exact ⟨by have:=h.1.1;simp at this;omega,fun j k hk=>Qln _ _ _ 0 j k h.2 hk⟩
theorem Qxk (n:Nat) (w:World) (hn:n≤1000000):Calls Tryz.prog 141 #[.int .i64 n] w fun e w'=>∃ r,e = .returned r∧w'.ownsRow w.heap.size 9 1 r n ((List.replicate n (⟨#[32]⟩:ByteArray)).map Value.string)∧Below w.heap.size w w':=by
 have HN:=hQ hn;obtain ⟨is,his,s0,s1,s2⟩:=info_parts Qcw
 go_enter Tryz.func141,Tryz.ntmps141
 go_wp2
 go_loopw [3,4] (fun l i wr=>∃ j:Nat,i = .int .i64 j∧j≤n∧wr.ownsRow w.heap.size 9 1 l j ((List.replicate j (⟨#[32]⟩:ByteArray)).map Value.string)∧Below w.heap.size w wr) (fun _ i _=>n-(intOf i).toNat)
 case atStart=>exact ⟨0,rfl,xZ _,World.ownsRow_nil _ _ _ _,xC _ _⟩
 case round =>
  obtain ⟨j,rfl,hj,hown,hb⟩:=hrel;have HO:=hQ hown;have HB:=hQ hb;clear hown hb
  by_cases hlt:j<n
  ·have HL1:=hQ (show j+1≤maxLen from by have:=HN.out;unfold maxLen;omega);have HL2:=hQ (show (j+1)*16≤140737488355328 from by have:=HN.out;omega);have HW:=hQ ((xC wr.heap.size wr).alloc (xA _) (.cells #[.string ⟨#[32]⟩] 9));have HJ:=hQ hj;clear hj;have HNW:=hQ (xM (w:=wr.alloc (.cells #[.string ⟨#[32]⟩] 9)) (cs:=#[.string ⟨#[32]⟩]) (t:=9) (fr:=(0,0)) (xH wr _));have HON:=hQ (Qhv [⟨#[32]⟩]);have HSZ:=hQ (show w.heap.size≤(wr.alloc (.cells #[.string ⟨#[32]⟩] 9)).heap.size from by rw [xI];have:=HB.out.size;omega);have HOA:=hQ (HO.out.alloc (.cells #[.string ⟨#[32]⟩] 9));go_wp2_with (at_builtin;refine wpList_append_lies _ rfl _ _ 23 rfl w.heap.size 9 is _ 1 16 Tryz.underlying23 his s0 s1 s2 rfl (by decide) _ j ((List.replicate j (⟨#[32]⟩:ByteArray)).map Value.string) rfl HOA.out ⟨wr.heap.size,0,none⟩ 1 1 [.string ⟨#[32]⟩] rfl rfl HNW.out HON.out (by decide) HL1.out HL2.out HSZ.out _ rfl ?_;intro g c w3 hown hgr _ hlt3;have HO3:=hQ hown;have HB3:=hQ ((HB.out.trans (HW.out.mono HB.out.size)).grown hgr HSZ.out (fun k hk=>(HO.out.lt k hk).1));clear hown hgr hlt3)
   go_roundw
   case rel =>
    refine ⟨j+1,by go_num,by omega,?_,HB3.out⟩;rw [List.replicate_succ',List.map_append];exact HO3.out
   case measure=>simp [intOf];omega
  ·obtain rfl:j=n:=by omega
   go_wp2
   go_ret
   exact ⟨_,rfl,HO.out,HB.out⟩
def BefP (w:World) (e:Ending) (w':World):Prop:=∃ s:ByteArray,e = .returned (.string s)∧s.size≤5∧Below w.heap.size w w'
theorem Qxl (v:TV) (i:Nat) (s:ByteArray) (w:World) (hs:s.size≤5):Calls Tryz.prog 142 #[.agg #[.int .i64 v.kind,.string v.text,.slice v.la v.ll v.lc,.slice v.ka v.kl v.kc],.int .i64 i,.string s] w (BefP w):=by
 obtain ⟨vk,vx,vla,vll,vlc,vka,vkl,vkc⟩:=v;have HB0:=hQ ((xC w.heap.size w).alloc (xA _) (trO ⟨vk,vx,vla,vll,vlc,vka,vkl,vkc⟩));have HS:=hQ hs;clear hs
 by_cases h1:vk=1
 ·subst h1
  go_enter Tryz.func142,Tryz.ntmps142
  go_wp2
  go_ret
  exact ⟨_,rfl,by decide,HB0.out⟩
 have d1:decide (vk=1)=false:=xR h1;have e1:=Qcr h1
 by_cases hi:0<i
 ·go_enter Tryz.func142,Tryz.ntmps142
  go_wp2
  go_ret
  exact ⟨_,rfl,by decide,HB0.out⟩
 obtain rfl:i=0:=by omega
 by_cases h2:vk=8∨vk=22∨vk=16∨vk=18
 ·rcases h2 with rfl | rfl | rfl | rfl
  all_goals
   go_enter Tryz.func142,Tryz.ntmps142
   go_wp2
   go_ret
   exact ⟨_,rfl,by decide,HB0.out⟩
 by_cases h3:vk=2
 ·subst h3
  by_cases hl:2<vkl
  ·go_enter Tryz.func142,Tryz.ntmps142
   go_wp2
   go_ret
   exact ⟨_,rfl,by decide,HB0.out⟩
  ·have dl:decide (2<vkl)=false:=xR hl
   go_enter Tryz.func142,Tryz.ntmps142
   go_wp2
   go_ret
   exact ⟨_,rfl,by decide,HB0.out⟩
 by_cases h4:vk=17∨vk=21
 ·rcases h4 with rfl | rfl
  all_goals
   go_enter Tryz.func142,Tryz.ntmps142
   go_wp2
   go_ret
   exact ⟨_,rfl,HS.out,HB0.out⟩
 have n8:vk≠8:=fun h=>h2 (.inl h)
 have n22:vk≠22:=fun h=>h2 (.inr (.inl h))
 have n16:vk≠16:=fun h=>h2 (.inr (.inr (.inl h)))
 have n18:vk≠18:=fun h=>h2 (.inr (.inr (.inr h)))
 have n17:vk≠17:=fun h=>h4 (.inl h)
 have n21:vk≠21:=fun h=>h4 (.inr h)
 have q8:=Qcr n8;have q22:=Qcr n22;have q16:=Qcr n16;have q18:=Qcr n18;have q17:=Qcr n17;have q21:=Qcr n21;have q2:=Qcr h3;clear h2 h4
 go_enter Tryz.func142,Tryz.ntmps142
 go_wp2
 go_ret
 exact ⟨_,rfl,by decide,HB0.out⟩
structure LdU (R U:Nat) (k:Int) (x:ByteArray) (la:Option Addr) (q lc:Nat) (wr:World):Prop where
 blk:wr.heap[U]? = some (trO ⟨k,x,la,q,lc,none,0,0⟩)
 ru:R<U
 cap:q≤lc
 ld:∃ ls:List ByteArray,ls.length=q∧(∀ y∈ls,y.size≤5)∧(0<q→∃ g cs,la=some ⟨g,0,none⟩∧wr.heap[g]? = some (.cells cs 9 (0,0))∧R<g∧g≠U∧∀ (i:Nat) (s:ByteArray),ls[i]? = some s→cs[i]? = some (.string s))
theorem LdU.keep {R U:Nat} {k:Int} {x:ByteArray} {la:Option Addr} {q lc:Nat} {wr w':World} (h:LdU R U k x la q lc wr) (hb:Below wr.heap.size wr w'):LdU R U k x la q lc w':=by
 obtain ⟨h1,h2,h3,ls,h4,h5,h6⟩:=h;refine ⟨(hb.block U (Qaa h1)).trans h1,h2,h3,ls,h4,h5,fun hq=>?_⟩;obtain ⟨g,cs,q1,q2,q3⟩:=h6 hq;exact ⟨g,cs,q1,(hb.block g (Qaa q2)).trans q2,q3⟩
theorem LdU.put {R U g i:Nat} {k:Int} {x s:ByteArray} {q lc:Nat} {wr:World} (h:LdU R U k x (some ⟨g,0,none⟩) q lc wr) (hi:i<q) (hs:s.size≤5):LdU R U k x (some ⟨g,0,none⟩) q lc (wr.setCell ⟨g,i,none⟩ (.string s)):=by
 obtain ⟨h1,h2,h3,ls,h4,h5,h6⟩:=h;obtain ⟨g',cs,q1,q2,q3,q4,q5⟩:=h6 (by omega);injection q1 with q1;injection q1 with q1 _ _;subst q1
 refine ⟨(Qao (fun e=>q4 e.symm)).trans h1,h2,h3,ls.set i s,by rw [List.length_set,h4],fun y hy=>?_,fun _=>⟨g,_,rfl,Qay q2 rfl,q3,q4,fun j z hz=>?_⟩⟩
 ·rcases List.mem_or_eq_of_mem_set hy with h | h
  ·exact h5 y h
  ·rw [h];exact hs
 ·have hcs:i<cs.size:=by
   obtain ⟨z',hz'⟩:∃ z,ls[i]? = some z:=⟨_,xF (by omega)⟩;exact (Array.getElem?_eq_some_iff.1 (q5 i z' hz')).1
  by_cases hj:j=i
  ·subst hj;rw [List.getElem?_set_self (by omega)] at hz;injection hz with hz;subst hz;rw [Array.getElem?_setIfInBounds_self_of_lt hcs]
  ·rw [List.getElem?_set_ne (fun e=>hj e.symm)] at hz;rw [xY (fun e=>hj e.symm)];exact q5 j z hz
theorem LdU.at {R U i:Nat} {k:Int} {x:ByteArray} {la:Option Addr} {q lc:Nat} {wr:World} (h:LdU R U k x la q lc wr) (hi:i<q):∃ g,la=some ⟨g,0,none⟩∧R<g∧g≠U∧g<wr.heap.size∧(∀ o,wr.frozen? ⟨g,o,none⟩=false)∧∀ j,j<q→∃ s,wr.cell? ⟨g,j,none⟩=some (.string s):=by
 obtain ⟨h1,h2,h3,ls,h4,h5,h6⟩:=h;obtain ⟨g,cs,q1,q2,q3,q4,q5⟩:=h6 (by omega);refine ⟨g,q1,q3,q4,Qaa q2,fun o=>xL q2 _,fun j hj=>?_⟩;obtain ⟨s,hs⟩:∃ s,ls[j]? = some s:=⟨_,xF (by omega)⟩;exact ⟨s,Qab q2 j _ (q5 j s hs)⟩
structure RowK (G:Nat) (wr:World) (ks:List Tr) (vs:List TV):Prop where
 len:vs.length=ks.length
 row:∃ cs,wr.heap[G]? = some (.cells cs 25 (0,0))∧RowIs cs vs
 kid:∀ (i:Nat) (k:Tr) (u:TV),ks[i]? = some k→vs[i]? = some u→TrAt (fun b=>G<b∧b<wr.heap.size) wr k u
theorem RowK.other {G:Nat} {wr w':World} {ks:List Tr} {vs:List TV} (h:RowK G wr ks vs) (hs:wr.heap.size≤w'.heap.size) (hb:∀ b,G≤b→b<wr.heap.size→w'.heap[b]? = wr.heap[b]?):RowK G w' ks vs:=by
 obtain ⟨h1,⟨cs,h2,h3⟩,h4⟩:=h;exact ⟨h1,⟨cs,(hb G (xA _) (Qaa h2)).trans h2,h3⟩,fun i k u hk hu=>TrAt.move (fun b hb'=>⟨hb'.1,by omega⟩) (fun b hb' hl=>hb b (by omega) hl) _ _ (h4 i k u hk hu)⟩
theorem Qxm {cs:Array Value} {vs:List TV} (h:RowIs cs vs) (y:TV) (j:Nat) (hj:j=vs.length) (hs:j*4+4≤cs.size):RowIs (Zeh cs (j*4) y) (vs ++ [y]):=by
 subst hj;intro i v hv
 by_cases hi:i<vs.length
 ·rw [yB hi] at hv;obtain ⟨q0,q1,q2,q3⟩:=h i v hv;exact ⟨(Qhj cs _ y _ (by omega)).trans q0,(Qhj cs _ y _ (by omega)).trans q1,(Qhj cs _ y _ (by omega)).trans q2,(Qhj cs _ y _ (by omega)).trans q3⟩
 ·have hl:=(xP.1 hv).1;rw [xB,List.length_singleton] at hl;obtain rfl:i=vs.length:=by omega
  rw [xX (xA _),Nat.sub_self] at hv;injection hv with hv;subst hv;unfold Zeh
  refine ⟨?_,?_,?_,?_⟩
  ·rw [xY (by omega),xY (by omega),xY (by omega),Array.getElem?_setIfInBounds_self_of_lt (by omega)]
  ·rw [xY (by omega),xY (by omega),Array.getElem?_setIfInBounds_self_of_lt (by simp;omega)]
  ·rw [xY (by omega),Array.getElem?_setIfInBounds_self_of_lt (by simp;omega)]
  ·rw [Array.getElem?_setIfInBounds_self_of_lt (by simp;omega)]
theorem RowK.snoc {G j:Nat} {w5:World} {ks:List Tr} {vs:List TV} {t:Tr} {y:TV} (h:RowK G w5 ks vs) (hj:j=ks.length) (hc:∀ cs,w5.heap[G]? = some (.cells cs 25 (0,0))→j*4+4≤cs.size) (ht:TrAt (fun b=>G<b∧b<w5.heap.size) w5 t y):RowK G (Qq8 w5 G (j*4) y) (ks ++ [t]) (vs ++ [y]):=by
 obtain ⟨h1,⟨cs,h2,h3⟩,h4⟩:=h;have hz:=Qiq w5 G (j*4) y;refine ⟨by rw [xB,xB,h1];rfl,⟨_,Qip (j*4) y h2,Qxm h3 y j (by rw [h1];exact hj) (hc cs h2)⟩,fun i k u hk hu=>?_⟩;have hmv:∀ (k:Tr) (u:TV),TrAt (fun b=>G<b∧b<w5.heap.size) w5 k u→TrAt (fun b=>G<b∧b<(Qq8 w5 G (j*4) y).heap.size) (Qq8 w5 G (j*4) y) k u:=fun k u h=>TrAt.move (fun b hb=>⟨hb.1,by rw [hz];exact hb.2⟩) (fun b hb _=>Qcp (j*4) y (by omega)) _ _ h
 by_cases hi:i<ks.length
 ·rw [yB hi] at hk;rw [yB (by rw [h1];exact hi)] at hu;exact hmv _ _ (h4 i k u hk hu)
 ·have hl:=(xP.1 hk).1;rw [xB,List.length_singleton] at hl;obtain rfl:i=ks.length:=by omega
  rw [xX (xA _),Nat.sub_self] at hk;rw [←h1,xX (xA _),Nat.sub_self] at hu;injection hk with hk;injection hu with hu;subst hk hu;exact hmv _ _ ht
def ArrP (t:Tr) (w:World) (e:Ending) (w':World):Prop:=∃ (t':Tr) (u:TV),e = .returned (.agg #[.int .i64 u.kind,.string u.text,.slice u.la u.ll u.lc,.slice u.ka u.kl u.kc])∧TrAt (fun b=>w.heap.size≤b∧b<w'.heap.size) w' t' u∧Qak t'=Qak t∧Qe6 t'=true∧Below w.heap.size w w'∧t'.kind=t.kind
structure ArE (kd:Int) (U G:Nat) (la:Option Addr) (q lc:Nat) (t:Tr) (v:TV) (ks:List Tr) (vs:List TV) (w wr:World):Prop where
 ld:LdU (w.heap.size+1) U kd t.text la q lc wr
 res:wr.heap[w.heap.size+1]? = some (.cells #[.int .i64 0,.string ⟨#[]⟩,.slice none 0 0,.slice none 0 0] 25 (0,0))
 box:wr.heap[w.heap.size]? = some (trO v)
 row:RowK G wr ks vs
 ug:U<G
 lg:0<q→∀ g,la=some ⟨g,0,none⟩→g<G
 below:Below w.heap.size w wr
theorem ArE.put {kd:Int} {U G g i:Nat} {q lc:Nat} {t:Tr} {v:TV} {ks:List Tr} {vs:List TV} {w wr:World} {s:ByteArray} (h:ArE kd U G (some ⟨g,0,none⟩) q lc t v ks vs w wr) (hi:i<q) (hs:s.size≤5):ArE kd U G (some ⟨g,0,none⟩) q lc t v ks vs w (wr.setCell ⟨g,i,none⟩ (.string s)):=by
 obtain ⟨g',e,h1,h2,h3,_⟩:=h.ld.at hi;injection e with e;injection e with e _ _;subst e;have hg:=h.lg (by omega) g rfl;have hz:(wr.setCell ⟨g,i,none⟩ (.string s)).heap.size=wr.heap.size:=by simp [World.setCell]
 exact ⟨h.ld.put hi hs,(Qao (by omega)).trans h.res,(Qao (by omega)).trans h.box,h.row.other (by rw [hz];exact xA _) (fun b hb _=>Qao (by omega)),h.ug,h.lg,h.below.setCell (p:=⟨g,i,none⟩) (by show w.heap.size≤g;omega) _⟩
theorem ArE.drew {kd:Int} {U G:Nat} {la:Option Addr} {q lc:Nat} {t:Tr} {v:TV} {ks:List Tr} {vs:List TV} {w wr:World} (h:ArE kd U G la q lc t v ks vs w wr):ArE kd U G la q lc t v ks vs w wr.drew :=
 ⟨h.ld.keep ((xC _ _).drew),h.res,h.box,h.row.other (xA _) (fun _ _ _=>rfl),h.ug,h.lg,h.below.drew⟩
theorem ArE.made {kd:Int} {U G:Nat} {la:Option Addr} {q lc n:Nat} {t:Tr} {v:TV} {ks:List Tr} {vs:List TV} {w wr:World} (h:ArE kd U G la q lc t v ks vs w wr) (hx:szq t.text≤7) (hq:q≤n+6) (hn:n=ks.length) (hs:Qaq ks=Qaq t.kids) (ht:Qbm ks=true) (hk':kd=t.kind) :
  ArrP t w (.returned (.agg #[.int .i64 kd,.string t.text,.slice la q lc,.slice (some ⟨G,0,none⟩) n n])) (Qeg (wr.setCell ⟨U,3,none⟩ (.slice (some ⟨G,0,none⟩) n n)) (w.heap.size+1) ⟨kd,t.text,la,q,lc,some ⟨G,0,none⟩,n,n⟩):=by
 subst hn;obtain ⟨ls,l1,l2,l3⟩:=h.ld.ld;have hU:=h.ld.ru;have hUG:=h.ug;obtain ⟨cs,r1,r2⟩:=h.row.row;have hG:=Qaa r1;have hz:(Qeg (wr.setCell ⟨U,3,none⟩ (.slice (some ⟨G,0,none⟩) ks.length ks.length)) (w.heap.size+1) ⟨kd,t.text,la,q,lc,some ⟨G,0,none⟩,ks.length,ks.length⟩).heap.size=wr.heap.size:=by rw [Qb3];simp [World.setCell]
 have hk:∀ b,b≠U→b≠w.heap.size+1→(Qeg (wr.setCell ⟨U,3,none⟩ (.slice (some ⟨G,0,none⟩) ks.length ks.length)) (w.heap.size+1) ⟨kd,t.text,la,q,lc,some ⟨G,0,none⟩,ks.length,ks.length⟩).heap[b]? = wr.heap[b]?:=fun b h1 h2=>(Qa1 _ h2).trans (Qao h1)
 refine ⟨.mk kd t.text ls ks,⟨kd,t.text,la,q,lc,some ⟨G,0,none⟩,ks.length,ks.length⟩,rfl,?_,by rw [Qak,Qa7,hs],Qbz.2 ⟨hx,by omega,l2,ht⟩,(h.below.setCell (p:=⟨U,3,none⟩) (by show w.heap.size≤U;omega) _).trans ((Qbk _ (w.heap.size+1) _).mono (by omega)),hk'⟩;unfold TrAt
 refine ⟨rfl,rfl,l1.symm,rfl,fun hne=>?_,fun hne=>?_,h.ld.cap,xA _⟩
 ·obtain ⟨g,cg,q1,q2,q3,q4,q5⟩:=l3 (by rw [←l1];exact List.length_pos_iff.2 hne);refine ⟨g,0,q1,⟨by omega,by rw [hz];exact Qaa q2⟩,fun i y hy=>?_⟩;rw [Nat.zero_add];exact (xJ (w:=wr) (a:=⟨g,i,none⟩) (hk g q4 (by omega))).trans (Qab q2 i _ (q5 i y hy))
 ·refine ⟨G,0,rfl,⟨by omega,by rw [hz];exact hG⟩,TrsAt.of ks 0 fun i k hki=>?_⟩;have hi:=(xP.1 hki).1;obtain ⟨u,hu⟩:∃ u,vs[i]? = some u:=⟨_,xF (by rw [h.row.len];exact hi)⟩;obtain ⟨q0,q1,q2,q3⟩:=r2 i u hu;have hc:∀ (o:Nat) (z:Value),cs[o]? = some z→(Qeg (wr.setCell ⟨U,3,none⟩ (.slice (some ⟨G,0,none⟩) ks.length ks.length)) (w.heap.size+1) ⟨kd,t.text,la,q,lc,some ⟨G,0,none⟩,ks.length,ks.length⟩).cell? ⟨G,o,none⟩=some z:=fun o z hz=>(xJ (w:=wr) (a:=⟨G,o,none⟩) (hk G (by omega) (by omega))).trans (Qab r1 o _ hz)
  rw [Nat.zero_add];exact ⟨u,hc _ _ q0,hc _ _ q1,hc _ _ q2,hc _ _ q3,TrAt.move (fun b hb=>⟨by omega,by rw [hz];exact hb.2⟩) (fun b hb _=>hk b (by omega) (by omega)) _ _ (h.row.kid i k u hki hu)⟩
end Go.Proofs.YtfjpemdejoejbaaGreat
