/- Part 21 -/
import Derived.Test.YtfjpemdejoejbaaGreatSg20
set_option maxRecDepth 100000
set_option maxHeartbeats 4000000
namespace Go.Proofs.YtfjpemdejoejbaaGreat
open Go.RowKit Go.Shelf
def Qhf (ws:List (Value × Value × Bool)):List Value:=ws.flatMap fun u=>[u.1,u.2.1,.bool u.2.2]
theorem Qpc (a b:List (Value × Value × Bool)):Qhf (a ++ b)=Qhf a ++ Qhf b:=by unfold Qhf;rw [List.flatMap_append]
def VRow (w:World) (B:Nat) (v:Value) (ws:List (Value × Value × Bool)):Prop:=w.ownsRow B 42 3 v ws.length (Qhf ws)
def Zc7 (w:World) (lo:Nat) (y:Value × Value × Bool) (z:Vrb):Prop:=IRow w lo y.1 z.1∧(z.2=none∧y.2.1 = .slice none 0 0∧y.2.2=true∨∃ q,z.2=some q∧IRow w lo y.2.1 q∧y.2.2=false)
def VarsAt (w:World) (lo:Nat) (ws:List (Value × Value × Bool)) (vs:List Vrb):Prop:=ws.length=vs.length∧∀ (j:Nat) (y:Value × Value × Bool) (z:Vrb),ws[j]? = some y→vs[j]? = some z→Zc7 w lo y z
theorem VarsAt.nil (w:World) (lo:Nat):VarsAt w lo [] []:=⟨rfl,fun j y z h=>by simp at h⟩
theorem VarsAt.app {w:World} {lo:Nat} {a b:List (Value × Value × Bool)} {c d:List Vrb} (h:VarsAt w lo a c) (k:VarsAt w lo b d):VarsAt w lo (a ++ b) (c ++ d):=by
 refine ⟨by rw [xB,xB,h.1,k.1],fun j y z hy hz=>?_⟩
 by_cases hj:j<a.length
 ·rw [yB hj] at hy;rw [yB (by rw [←h.1];exact hj)] at hz;exact h.2 j y z hy hz
 ·rw [xX (by omega)] at hy;rw [xX (by rw [←h.1];omega),←h.1] at hz;exact k.2 _ y z hy hz
theorem VarsAt.one {w:World} {lo:Nat} {y:Value × Value × Bool} {z:Vrb} (h:Zc7 w lo y z):VarsAt w lo [y] [z]:=by
 refine ⟨rfl,fun j y' z' hy hz=>?_⟩
 match j,hy,hz with
 | 0,hy,hz =>
  injection hy with hy;injection hz with hz;subst hy hz;exact h
theorem VarsAt.step {w w':World} {lo lo':Nat} {ws:List (Value × Value × Bool)} {vs:List Vrb} (h:VarsAt w lo ws vs) (hk:∀ v p,IRow w lo v p→IRow w' lo' v p):VarsAt w' lo' ws vs :=
 ⟨h.1,fun j y z hy hz=>⟨hk _ _ (h.2 j y z hy hz).1,(h.2 j y z hy hz).2.imp id fun ⟨q,h1,h2,h3⟩=>⟨q,h1,hk _ _ h2,h3⟩⟩⟩
def Qfb (lv:Value) (a:Nat) (pv:Value) (b:Nat) (sv:Value) (c:Nat):Nat→Option Nat:=fun k=>if lv.ownBlock=some k then some a else if pv.ownBlock=some k then some b else if sv.ownBlock=some k then some c else none
def Qkv (v v':Value):Prop:=∀ g,v.ownBlock=some g→v'.ownBlock≠some g
theorem Qi1 {w:World} {B B':Nat} {e e':TypeId} {s s':Nat} {v v':Value} {n n':Nat} {xs xs':List Value} (h:w.ownsRow B e s v n xs) (h':w.ownsRow B' e' s' v' n' xs') (hne:e≠e'):Qkv v v':=fun g hg hg'=>by
 rcases h.2 with ⟨rfl,_⟩|⟨a,cap,cur,rfl,_,hh,_⟩
 ·cases hg
 ·rcases h'.2 with ⟨rfl,_⟩|⟨a',cap',cur',rfl,_,hh',_⟩
  ·cases hg'
  ·injection hg with hg;injection hg' with hg';have e1:a=g:=hg;have e2:a'=g:=hg';subst e1 e2;rw [hh] at hh';injection hh' with hh';injection hh' with _ h2;exact hne h2
theorem Qpd {lv pv sv:Value} {a b c k:Nat} (h:lv.ownBlock=some k):Qfb lv a pv b sv c k=some a:=xO h
theorem Qsu {lv pv sv:Value} {a b c k:Nat} (h:pv.ownBlock=some k) (hd:Qkv lv pv):Qfb lv a pv b sv c k=some b:=by
 unfold Qfb;rw [xN (fun e=>hd k e h),xO h]
theorem Qsv {lv pv sv:Value} {a b c k:Nat} (h:sv.ownBlock=some k) (hd:Qkv lv sv) (hd':Qkv pv sv):Qfb lv a pv b sv c k=some c:=by
 unfold Qfb;rw [xN (fun e=>hd k e h),xN (fun e=>hd' k e h),xO h]
theorem Qhz {lv pv sv:Value} {a b c k:Nat} (h1:lv.ownBlock≠some k) (h2:pv.ownBlock≠some k) (h3:sv.ownBlock≠some k):Qfb lv a pv b sv c k=none:=by
 unfold Qfb;rw [xN h1,xN h2,xN h3]
theorem Qkw {w:World} {lv lv' pv pv' sv sv':Value} {a a' b b' c c':Nat} (hl:Later w lv lv') (hp:Later w pv pv') (hs:Later w sv sv') (ha:a≤a') (hb:b≤b') (hc:c≤c')
  (d1:Qkv lv pv) (d2:Qkv lv sv) (d3:Qkv pv sv):Qiz w.heap.size (Qfb lv a pv b sv c) (Qfb lv' a' pv' b' sv' c'):=fun k hk=>by
 by_cases h1:lv'.ownBlock=some k
 ·rcases hl k h1 with h | h
  ·exact .inr ⟨a,a',Qpd h,Qpd h1,ha⟩
  ·omega
 ·by_cases h2:pv'.ownBlock=some k
  ·rcases hp k h2 with h | h
   ·exact .inr ⟨b,b',Qsu h d1,by unfold Qfb;rw [xN h1,xO h2],hb⟩
   ·omega
  ·by_cases h3:sv'.ownBlock=some k
   ·rcases hs k h3 with h | h
    ·exact .inr ⟨c,c',Qsv h d2 d3,by unfold Qfb;rw [xN h1,xN h2,xO h3],hc⟩
    ·omega
   ·exact .inl (Qhz h1 h2 h3)
theorem Later.refl (w:World) (v:Value):Later w v v:=fun _ h=>.inl h
theorem Later.trans {w w':World} {a b c:Value} (h:Later w a b) (h':Later w' b c) (hs:w.heap.size≤w'.heap.size):Later w a c:=fun g hg=>by
 rcases h' g hg with h1 | h1
 ·exact h g h1
 ·exact .inr (xQ hs h1)
theorem Zh0 {lv pv sv:Value} {a b c N:Nat} (d1:Qkv lv pv):Qiz N (Qfb lv a pv b sv c) (pre pv b):=fun k _=>by
 by_cases h:pv.ownBlock=some k
 ·exact .inr ⟨b,b,Qsu h d1,Qi0 h,xA _⟩
 ·exact .inl (Qdp h)
theorem Zh1 {lv pv sv:Value} {a b c N:Nat} (d2:Qkv lv sv) (d3:Qkv pv sv):Qiz N (Qfb lv a pv b sv c) (pre sv c):=fun k _=>by
 by_cases h:sv.ownBlock=some k
 ·exact .inr ⟨c,c,Qsv h d2 d3,Qi0 h,xA _⟩
 ·exact .inl (Qdp h)
theorem Zh2 {lv pv sv:Value} {a b c N:Nat}:Qiz N (Qfb lv a pv b sv c) (pre lv a):=fun k _=>by
 by_cases h:lv.ownBlock=some k
 ·exact .inr ⟨a,a,Qpd h,Qi0 h,xA _⟩
 ·exact .inl (Qdp h)
theorem IB.keepP {P:Nat→Option Nat} {w w':World} {lo:Nat} {v:Value} {p:List Int} (h:IB w lo v p) (hk:Keeps P w w') (hp:∀ g,v.ownBlock=some g→P g=none∨∃ m,P g=some m∧p.length≤m):IB w' lo v p:=by
 obtain ⟨g,c,cur,rfl,h2,h3,h4⟩:=h
 rcases hp g rfl with h0|⟨m,h1,h5⟩
 ·exact ⟨g,c,cur,rfl,h2,(hk.block g (Qaa h3) h0).trans h3,h4⟩
 ·obtain ⟨c1,hc1,_,ht1⟩:=hk.cells g m cur _ h1 h3;exact ⟨g,c,c1,rfl,h2,hc1,(Qss h5 ht1).trans h4⟩
theorem IRow.ib {w:World} {B:Nat} {v:Value} {p:List Int} (h:IRow w B v p) (hne:p≠[]):IB w B v p:=by
 rcases h.2 with ⟨_,h0⟩|⟨g,cap,cur,hv,hb,hh,_,_,_,htk⟩
 ·exact absurd (List.eq_nil_of_length_eq_zero h0) hne
 ·rw [Nat.mul_one] at htk;exact ⟨g,cap,cur,hv,hb,hh,htk⟩
theorem IB.ints {w:World} {lo:Nat} {v:Value} {p:List Int} (h:IB w lo v p):∃ A c,v = .slice A p.length c∧IntsAt w A p:=by
 obtain ⟨g,c,cur,rfl,_,hh,h4⟩:=h;refine ⟨_,c,rfl,fun _=>⟨g,0,rfl,Qaa hh,fun i x hx=>?_⟩⟩;have hi:=(xP.1 hx).1;rw [Nat.zero_add,Lib.cell_of_heap hh,←Array.getElem?_toList];have h1:(p.map (Value.int .i64))[i]? = some (.int .i64 x):=by rw [List.getElem?_map,hx];rfl
 rw [←h4,List.getElem?_take_of_lt (by omega)] at h1;exact h1
def StkM (w:World) (B:Nat) (pv:Value) (n:Nat) (us:List (ByteArray × Value)) (st:List Bnd):Prop:=us.length=st.length∧∀ (j:Nat) (y:ByteArray × Value) (z:Bnd),us[j]? = some y→st[j]? = some z →
 y.1=z.1∧IB w B y.2 z.2∧z.2≠[]∧z.2.length≤1000000∧∀ g,y.2.ownBlock=some g→pv.ownBlock=some g→z.2.length≤n
theorem StkM.keep {w w':World} {B:Nat} {lv pv sv:Value} {a n c:Nat} {us:List (ByteArray × Value)} {st:List Bnd} {ws:List (Value × Value × Bool)} (h:StkM w B pv n us st) (hk:Keeps (Qfb lv a pv n sv c) w w') (hl:VRow w B lv ws) (hs:Ql0 w B sv us):StkM w' B pv n us st:=by
 refine ⟨h.1,fun j y z hy hz=>?_⟩;obtain ⟨h1,h2,h3,h4,h5⟩:=h.2 j y z hy hz;refine ⟨h1,h2.keepP hk (fun g hg=>?_),h3,h4,h5⟩;obtain ⟨g',cp,cur,hv,_,hh,_⟩:=h2;rw [hv] at hg;injection hg with hg;have e1:g'=g:=hg;subst e1
 have hn1:lv.ownBlock≠some g':=fun e=>by
  rcases hl.2 with ⟨rfl,_⟩|⟨g2,cap,cur',rfl,_,hh',_⟩
  ·cases e
  ·injection e with e;have e2:g2=g':=e;subst e2;rw [hh] at hh';injection hh' with hh';injection hh' with _ h2;exact absurd h2 (by decide)
 have hn3:=Qzf hs hh (by decide)
 by_cases hp:pv.ownBlock=some g'
 ·right
  unfold Qfb;rw [xN hn1,xO hp];exact ⟨n,rfl,h5 g' (by rw [hv];rfl) hp⟩
 ·exact .inl (Qhz hn1 hp hn3)
theorem Qfm:{us:List (ByteArray × Value)}→{j:Nat}→{y:ByteArray × Value}→us[j]? = some y→(Qgw us)[j*2]? = some (.string y.1)∧(Qgw us)[j*2+1]? = some y.2
 | [],_,_,h=>by simp at h
 | u :: r,0,y,h=>by
  injection h with h;subst h;exact ⟨rfl,rfl⟩
 | u :: r,j+1,y,h=>by
  have ih:=Qfm (us:=r) (j:=j) (y:=y) h;unfold Qgw at ih ⊢;rw [List.flatMap_cons,show (j+1)*2=j*2+2 from by omega,show j*2+2+1=j*2+1+2 from by omega,xX (by simp),xX (by simp)]
  simpa using ih
theorem StkM.stk {w:World} {B:Nat} {A:Option Addr} {m cap n:Nat} {pv:Value} {us:List (ByteArray × Value)} {st:List Bnd} (h:StkM w B pv n us st) (hs:Ql0 w B (.slice A m cap) us):m=st.length∧Zc4 w A st:=by
 refine ⟨?_,us,h.1,fun hne=>?_,fun j y z hy hz=>?_⟩
 ·rcases hs.2 with ⟨hv,h0⟩|⟨g,cap',cur,hv,_⟩
  ·injection hv with _ hv _;rw [hv,←h.1,h0]
  ·injection hv with _ hv _;rw [hv,h.1]
 ·rcases hs.2 with ⟨hv,h0⟩|⟨g,cap',cur,hv,hb,hh,_⟩
  ·exact absurd (List.eq_nil_of_length_eq_zero h0) hne
  ·injection hv with hv _ _;have hc:=hs.cells (g:=g) (by rw [hv];rfl);refine ⟨g,0,hv,Qaa hh,fun j x hx=>?_⟩;have h1:=hc _ _ (Qfm hx).1;have h2:=hc _ _ (Qfm hx).2;rw [Addr.add_lit] at h1 h2;exact ⟨h1,h2⟩
 ·obtain ⟨h1,h2,h3,h4,_⟩:=h.2 j y z hy hz;obtain ⟨PA,pc,hv,hi⟩:=h2.ints;exact ⟨h1,PA,pc,hv,hi,h3,h4⟩
theorem Qmr (ks:List Tr):(n:Nat)→∀ z∈Qej ks n,z.2.length=1
 | 0,z,h=>by rw [Qej] at h;simp at h
 | n+1,z,h=>by
  rw [Qej] at h
  rcases List.mem_cons.1 h with rfl | h
  ·rfl
  ·exact Qmr ks n z h
theorem Qms {ks:List Tr} {z:Bnd} (h:z∈Qek ks):z.2.length=1:=Qmr ks _ z h
structure Hand (B:Nat) (w:World) (lv:Value) (ws:List (Value × Value × Bool)) (pv:Value) (p:List Int) (sv:Value) (us:List (ByteArray × Value)) (st:List Bnd):Prop where
 hl:VRow w B lv ws
 hp:IRow w B pv p
 hs:Ql0 w B sv us
 hm:StkM w B pv p.length us st
 hb:B≤w.heap.size
section
variable {B:Nat} {w w':World} {lv pv sv:Value} {ws:List (Value × Value × Bool)} {p:List Int} {us:List (ByteArray × Value)} {st:List Bnd}
theorem Hand.apart (h:Hand B w lv ws pv p sv us st):Qkv lv pv∧Qkv lv sv∧Qkv pv sv:=⟨Qi1 h.hl h.hp (by decide),Qi1 h.hl h.hs (by decide),Qi1 h.hp h.hs (by decide)⟩
theorem Hand.keep (h:Hand B w lv ws pv p sv us st) (hk:Keeps (Qfb lv (ws.length*3) pv p.length sv (us.length*2)) w w'):Hand B w' lv ws pv p sv us st:=by
 obtain ⟨d1,d2,d3⟩:=h.apart;exact ⟨hk.row h.hl (fun k hk=>.inr ⟨_,Qpd hk,xA _⟩),hk.row h.hp (fun k hk=>.inr ⟨_,Qsu hk d1,by omega⟩),hk.row h.hs (fun k hk=>.inr ⟨_,Qsv hk d2 d3,xA _⟩),h.hm.keep hk h.hl h.hs,xQ h.hb hk.size⟩
theorem Hand.later (h:Hand B w lv ws pv p sv us st) (hb:Below w.heap.size w w'):Hand B w' lv ws pv p sv us st:=h.keep (Keeps.of_below hb)
theorem Qqn (N:Nat) (P:Nat→Option Nat):Qiz N P P:=fun k _=>by
 cases h:P k with
 | none=>exact .inl rfl
 | some n=>exact .inr ⟨n,n,rfl,rfl,xA _⟩
theorem Zc8 {pv':Value} {n n':Nat} {wa:World} (hm:StkM w B pv n us st) (_hw:w.heap.size≤wa.heap.size) (hk:∀ v z,IB w B v z→(∀ g,v.ownBlock=some g→pv.ownBlock=some g→z.length≤n)→IB w' B v z) (hl:Later w pv pv') (hn:n≤n'):StkM w' B pv' n' us st:=by
 refine ⟨hm.1,fun j y z hy hz=>?_⟩;obtain ⟨h1,h2,h3,h4,h5⟩:=hm.2 j y z hy hz;refine ⟨h1,hk _ _ h2 h5,h3,h4,fun g hg hp=>?_⟩
 rcases hl g hp with h | h
 ·exact xQ (h5 g hg h) hn
 ·obtain ⟨g',c,cur,hv,_,hh,_⟩:=h2;rw [hv] at hg;injection hg with hg;have e1:g'=g:=hg;have:=Qaa hh
  omega
theorem Hand.path (h:Hand B w lv ws pv p sv us st) {pv':Value} {q:Int} (hk:Keeps (pre pv (p.length*1)) w w') (hp:IRow w' B pv' (p ++ [q])) (hl:Later w pv pv') :
  Hand B w' lv ws pv' (p ++ [q]) sv us st∧Keeps (Qfb lv (ws.length*3) pv p.length sv (us.length*2)) w w'∧IRow w' B pv p:=by
 obtain ⟨d1,d2,d3⟩:=h.apart
 have hK:Keeps (Qfb lv (ws.length*3) pv p.length sv (us.length*2)) w w':=by
  refine (Keeps.refl _ w).trans hk ?_;rw [Nat.mul_one];exact Zh0 d1
 have hh:=h.keep hK;refine ⟨⟨hh.hl,hp,hh.hs,?_,hh.hb⟩,hK,hh.hp⟩;refine Zc8 (wa:=w) h.hm (xA _) (fun v z hi hz=>?_) hl (by rw [xB];omega);refine hi.keepP hk fun g hg=>?_
 by_cases hp:pv.ownBlock=some g
 ·exact .inr ⟨_,Qi0 hp,by have:=hz g hg hp;omega⟩
 ·exact .inl (Qdp hp)
theorem Hand.stack (h:Hand B w lv ws pv p sv us st) {pv0:Value} {p0:List Int} (h0:IRow w B pv0 p0) (hle:∀ g,pv0.ownBlock=some g→pv.ownBlock=some g→p0.length≤p.length) {t:Tr} {i:Int} {e:Ending}
  (hne:p0≠[]∨t.kind=2) (hpl:p0.length≤1000000) (he:Qzg B sv us t pv0 i w e w') :
  ∃ sv' us',e = .returned sv'∧us'.length≤us.length+t.kids.length+1∧us.length≤us'.length∧Hand B w' lv ws pv p sv' us' (st ++ Qct t.kind t.text t.kids p0 i)∧Keeps (Qfb lv (ws.length*3) pv p.length sv (us.length*2)) w w'∧Later w sv sv'∧IRow w' B pv0 p0:=by
 obtain ⟨d1,d2,d3⟩:=h.apart;obtain ⟨sv',us',rfl,hs,hk,hl,hc⟩:=he;have hK:Keeps (Qfb lv (ws.length*3) pv p.length sv (us.length*2)) w w':=(Keeps.refl _ w).trans hk (Zh1 d2 d3);have hh:=h.keep hK;have h0':IRow w' B pv0 p0:=hk.row h0 fun k hk'=>.inl (Qdp (Qi1 h0 h.hs (by decide) k hk'))
 have hcl:us'.length≤t.kids.length+1:=by
  rcases hc with ⟨_,_,rfl⟩|⟨_,_,_,hp⟩|⟨_,_,rfl⟩
  ·simp
  ·rw [hp.1];have:=Qku t.kids
   omega
  ·simp
 refine ⟨sv',us ++ us',rfl,by rw [xB];omega,by rw [xB];omega,⟨hh.hl,hh.hp,hs,?_,hh.hb⟩,hK,hl,h0'⟩
 have hlen:us'.length=(Qct t.kind t.text t.kids p0 i).length∧∀ (j:Nat) (y:ByteArray × Value) (z:Bnd),us'[j]? = some y→(Qct t.kind t.text t.kids p0 i)[j]? = some z →
   y.1=z.1∧IB w' B y.2 z.2∧z.2≠[]∧z.2.length≤1000000∧∀ g,y.2.ownBlock=some g→pv.ownBlock=some g→z.2.length≤p.length:=by
  rcases hc with ⟨c1,c2,rfl⟩|⟨c0,c1,c2,hp⟩|⟨c0,c1,rfl⟩
  ·have he:Qct t.kind t.text t.kids p0 i = [(t.text,p0)]:=xO ⟨c1,c2⟩;rw [he];have hp0:p0≠[]:=hne.resolve_right (by rw [c1];decide);refine ⟨rfl,fun j y z hy hz=>?_⟩
   match j,hy,hz with
   | 0,hy,hz =>
    injection hy with hy;injection hz with hz;subst hy hz;exact ⟨rfl,h0'.ib hp0,hp0,hpl,hle⟩
  ·have he:Qct t.kind t.text t.kids p0 i=Qek t.kids:=by unfold Qct;rw [xN c0,xO ⟨c1,c2⟩]
   rw [he];refine ⟨hp.1,fun j y z hy hz=>?_⟩;obtain ⟨q1,q2⟩:=hp.2 j y z hy hz;have hz1:z.2.length=1:=Qms (yA hz);refine ⟨q1,q2.low h.hb,fun e=>by rw [e] at hz1;simp at hz1,by omega,fun g hg hpg=>?_⟩;obtain ⟨g',c,cur,hv,hlo,hh',_⟩:=q2;rw [hv] at hg;injection hg with hg;have e1:g'=g:=hg;have:=(h.hp.lt g hpg).2
   omega
  ·have he:Qct t.kind t.text t.kids p0 i = []:=by unfold Qct;rw [xN c0,xN c1]
   rw [he];exact ⟨rfl,fun j y z hy=>by simp at hy⟩
 refine ⟨by rw [xB,xB,hh.hm.1,hlen.1],fun j y z hy hz=>?_⟩
 by_cases hj:j<us.length
 ·rw [yB hj] at hy;rw [yB (by rw [←hh.hm.1];exact hj)] at hz;exact hh.hm.2 j y z hy hz
 ·rw [xX (by omega)] at hy;rw [xX (by rw [←hh.hm.1];omega),←hh.hm.1] at hz;exact hlen.2 _ y z hy hz
end
def Qzi (B:Nat) (lv:Value) (ws:List (Value × Value × Bool)) (pv:Value) (p:List Int) (sv:Value) (us:List (ByteArray × Value)) (st:List Bnd) (t:Tr) (w:World) (e:Ending) (w':World):Prop :=
 ∃ v' vs',e = .returned v'∧VRow w' B v' (ws ++ vs')∧VarsAt w' w.heap.size vs' (Qi8 t p st)∧Keeps (Qfb lv (ws.length*3) pv p.length sv (us.length*2)) w w'∧Later w lv v'
theorem Zc9:(Tryz.prog.info? 42).map (fun i=>(i.zero,i.size,i.bytes))=some (some (.agg #[.slice none 0 0,.slice none 0 0,.bool false]),3,56):=by kernel_rfl
theorem Qdq {w:World} {B:Nat} {e:TypeId} {s:Nat} {v:Value} {n:Nat} {xs:List Value} (h:w.ownsRow B e s v n xs):∃ A c,v = .slice A n c:=by
 rcases h.2 with ⟨rfl,rfl⟩|⟨g,cap,cur,rfl,_⟩
 ·exact ⟨_,_,rfl⟩
 ·exact ⟨_,_,rfl⟩
theorem Qas (w:World) (o:Obj):Below w.heap.size w (w.alloc o):=(xC w.heap.size w).alloc (xA _) o
theorem Qga (A:Option Addr) (m cap:Nat) (st:List Bnd) (x:ByteArray) (w:World) (hm:m=st.length) (hS:Zc4 w A st) (hl:m≤1000000) :
  Calls Tryz.prog 73 #[.slice A m cap,.string x] w (Qsr (Qdo st x) w):=by
 subst hm;exact Qpb A cap st x w hS hl
theorem Qkx {w:World} {v:Value} {g n c:Nat} (h:v.ownBlock=some g∨w.heap.size≤g):Later w v (.slice (some ⟨g,0,none⟩) n c):=fun k hk=>by
 injection hk with hk;have e:g=k:=hk;subst e;exact h
theorem IRow.intsAt {w:World} {B n c:Nat} {A:Option Addr} {p:List Int} (h:IRow w B (.slice A n c) p):IntsAt w A p:=h.ints.2
theorem IRow.app {w:World} {B:Nat} {v:Value} {p:List Int} {P:Nat→Option Nat} {w':World} (h:IRow w B v p) (hk:Keeps P w w') (hp:∀ g,B≤g→g<w.heap.size→P g=none):IRow w' B v p :=
 hk.row h fun g hg=>.inl (hp g (h.lt g hg).1 (h.lt g hg).2)
theorem Qzj {B:Nat} {t:Tr} {lv v' pv sv:Value} {ws:List (Value × Value × Bool)} {p:List Int} {us:List (ByteArray × Value)} {st:List Bnd} {w w2 w3:World} {y:Value × Value × Bool} {z:Vrb} {o:Obj}
  (hh:Hand B w lv ws pv p sv us st) (hb:Below w.heap.size w w2) (hv:Zc7 w2 w.heap.size y z) (hown:w3.ownsRow B 42 3 v' (ws.length+1) (Qhf ws ++ [y.1,y.2.1,.bool y.2.2])) (hk:Keeps (pre lv (ws.length*3)) (w2.alloc o) w3)
  (hl:Later (w2.alloc o) lv v') (hvt:Qi8 t p st = [z]):Qzi B lv ws pv p sv us st t w (.returned v') w3:=by
 have hb3:=hb.trans ((Qas w2 o).mono hb.size)
 refine ⟨v',[y],rfl,?_,?_,(Keeps.of_below hb3).trans hk Zh2,fun g hg=>(hl g hg).imp id fun h=>xQ hb3.size h⟩
 ·unfold VRow;rw [xB,Qpc];exact hown
 ·rw [hvt];refine (VarsAt.one hv).step fun v q h=>?_
  exact (h.keep (Qas w2 o)).app hk fun g hg _=>Qdp fun e=>by
   have:=(hh.hl.lt g e).2
   omega
theorem Qpe (B:Nat) (t:Tr) (v:TV) (lv:Value) (ws:List (Value × Value × Bool)) (pv:Value) (p:List Int) (sv:Value) (us:List (ByteArray × Value)) (st:List Bnd) (w:World) (ht:TrAt (fun k=>k<B) w t v) (hh:Hand B w lv ws pv p sv us st)
  (hk:t.kind=12) (hne:p≠[]) (h1:ws.length+1≤100000) (h2:p.length≤1000000) (h3:us.length≤1000000) :
  Calls Tryz.prog 48 #[lv,.agg #[.int .i64 v.kind,.string v.text,.slice v.la v.ll v.lc,.slice v.ka v.kl v.kc],pv,sv] w (Qzi B lv ws pv p sv us st t w):=by
 obtain ⟨LA,lc,hlv⟩:=Qdq hh.hl;obtain ⟨PA,pc,hpv⟩:=Qdq hh.hp;obtain ⟨SA,sc,hsv⟩:=Qdq hh.hs;subst hlv hpv hsv;have HT:=hQ (show TrAt (fun k=>k<B) w t v from ht);have hkd:=ht.kl.2.2.1;have htx:=ht.kl.2.2.2;obtain ⟨vk,vx,vla,vll,vlc,vka,vkl,vkc⟩:=v;simp only at hkd htx;rw [hk] at hkd;subst hkd htx;have HH:=hQ hh;have HSL:=hQ (hh.hm.stk hh.hs).1;obtain ⟨iv,hiv,vz0,vz1,vz2⟩:=info_parts Zc9;clear ht hh
 go_enter Tryz.func48,Tryz.ntmps48
 cases hin:Qdo st t.text with
 | none =>
  have HIN:=hQ hin;clear hin;have HVT:=hQ (show Qi8 t p st = [(p,none)] from by rw [Qo9,xO hk,HIN.out])
  go_wp2_with (first
   | (go_at_call 73;have hhb:=Qas w (.cells #[.int .i64 12,.string t.text,.slice vla vll vlc,.slice vka vkl vkc] 25);have hh0:=HH.out.later hhb;refine (Qga SA _ sc st t.text _ HSL.out (hh0.hm.stk hh0.hs).2 h3).mono ?_;rw [HIN.out];rintro e w1 ⟨hb,rfl⟩;have HBA:=hQ (hhb.trans (hb.mono hhb.size));have HH1:=hQ (hh0.later hb);clear hb hhb hh0)
   | (go_at_call 77;refine (Qkt PA pc p _ HH1.out.hp.intsAt hne h2).mono ?_;rintro e w2 ⟨y,rfl,hy,hb⟩;obtain ⟨YA,yn,yc,rfl⟩:=hy.slice;have HBB:=hQ (HBA.out.trans (hb.mono HBA.out.size));have HH2:=hQ (HH1.out.later hb);have HY:=hQ (hy.low HBA.out.size);have HVR:=hQ (show VRow (w2.alloc (.cells #[.slice YA yn yc,.slice none 0 0,.bool true] 42)) B (.slice LA ws.length lc) ws from HH2.out.hl.alloc _);have HN:=hQ (xM (xH w2 (.cells #[.slice YA yn yc,.slice none 0 0,.bool true] 42)));have HONE:=hQ (show ∀ u∈[(.slice YA yn yc:Value),.slice none 0 0,.bool true],u.oneCell'=true from by intro v hv;simp at hv;rcases hv with rfl | rfl | rfl <;> rfl);have HBW:=hQ (show B≤(w2.alloc (.cells #[.slice YA yn yc,.slice none 0 0,.bool true] 42)).heap.size from by have:=HH2.out.hb;rw [xI];omega);clear hb hy)
   | (at_builtin;refine Qhe _ rfl _ _ 39 rfl B 42 iv _ 3 56 Tryz.underlying39 hiv vz0 vz1 vz2 rfl (by decide) _ ws.length (Qhf ws) rfl HVR.out ⟨w2.heap.size,0,none⟩ 1 1 [.slice YA yn yc,.slice none 0 0,.bool true] rfl rfl HN.out HONE.out (by decide) (by unfold maxLen;omega) (by omega) HBW.out ?_;intro g3 c3 w3 hown hk3 hg hlt;have HO:=hQ hown;have HK:=hQ hk3;have HG:=hQ (Qkx (n:=ws.length+1) (c:=c3) hg);clear hown hk3 hg hlt))
  go_ret
  exact (show Qzi B (.slice LA ws.length lc) ws (.slice PA p.length pc) p (.slice SA us.length sc) us st t w (.returned (.slice (some ⟨g3,0,none⟩) (ws.length+1) c3)) w3 from
   Qzj (y:=(.slice YA yn yc,.slice none 0 0,true)) HH.out HBB.out ⟨HY.out,.inl ⟨rfl,rfl,rfl⟩⟩ HO.out HK.out HG.out HVT.out)
 | some q =>
  have HIN:=hQ hin;clear hin;have HVT:=hQ (show Qi8 t p st = [(p,some q)] from by rw [Qo9,xO hk,HIN.out])
  go_wp2_with (first
   | (go_at_call 73;have hhb:=Qas w (.cells #[.int .i64 12,.string t.text,.slice vla vll vlc,.slice vka vkl vkc] 25);have hh0:=HH.out.later hhb;refine (Qga SA _ sc st t.text _ HSL.out (hh0.hm.stk hh0.hs).2 h3).mono ?_;rw [HIN.out];rintro e w1 ⟨hb,x,rfl,hx⟩;obtain ⟨XA,xn,xc,rfl⟩:=hx.slice;have HX:=hQ (hx.low hhb.size);clear hx;have HBA:=hQ (hhb.trans (hb.mono hhb.size));have HH1:=hQ (hh0.later hb);clear hb hhb hh0)
   | (go_at_call 77;refine (Qkt PA pc p _ HH1.out.hp.intsAt hne h2).mono ?_;rintro e w2 ⟨y,rfl,hy,hb⟩;obtain ⟨YA,yn,yc,rfl⟩:=hy.slice;have HBB:=hQ (HBA.out.trans (hb.mono HBA.out.size));have HH2:=hQ (HH1.out.later hb);have HX2:=hQ (HX.out.keep hb);have HY:=hQ (hy.low HBA.out.size);have HVR:=hQ (show VRow (w2.alloc (.cells #[.slice YA yn yc,.slice XA xn xc,.bool false] 42)) B (.slice LA ws.length lc) ws from HH2.out.hl.alloc _);have HN:=hQ (xM (xH w2 (.cells #[.slice YA yn yc,.slice XA xn xc,.bool false] 42)));have HONE:=hQ (show ∀ u∈[(.slice YA yn yc:Value),.slice XA xn xc,.bool false],u.oneCell'=true from by intro v hv;simp at hv;rcases hv with rfl | rfl | rfl <;> rfl);have HBW:=hQ (show B≤(w2.alloc (.cells #[.slice YA yn yc,.slice XA xn xc,.bool false] 42)).heap.size from by have:=HH2.out.hb;rw [xI];omega);clear hb hy)
   | (at_builtin;refine Qhe _ rfl _ _ 39 rfl B 42 iv _ 3 56 Tryz.underlying39 hiv vz0 vz1 vz2 rfl (by decide) _ ws.length (Qhf ws) rfl HVR.out ⟨w2.heap.size,0,none⟩ 1 1 [.slice YA yn yc,.slice XA xn xc,.bool false] rfl rfl HN.out HONE.out (by decide) (by unfold maxLen;omega) (by omega) HBW.out ?_;intro g3 c3 w3 hown hk3 hg hlt;have HO:=hQ hown;have HK:=hQ hk3;have HG:=hQ (Qkx (n:=ws.length+1) (c:=c3) hg);clear hown hk3 hg hlt))
  go_ret
  exact (show Qzi B (.slice LA ws.length lc) ws (.slice PA p.length pc) p (.slice SA us.length sc) us st t w (.returned (.slice (some ⟨g3,0,none⟩) (ws.length+1) c3)) w3 from
   Qzj (y:=(.slice YA yn yc,.slice XA xn xc,false)) HH.out HBB.out ⟨HY.out,.inr ⟨q,rfl,HX2.out,rfl⟩⟩ HO.out HK.out HG.out HVT.out)
end Go.Proofs.YtfjpemdejoejbaaGreat
