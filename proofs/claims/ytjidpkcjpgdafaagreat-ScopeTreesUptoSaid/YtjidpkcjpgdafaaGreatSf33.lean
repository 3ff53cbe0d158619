/- Part 33 -/
import Derived.Test.YtjidpkcjpgdafaaGreatSf32
set_option maxRecDepth 100000
set_option maxHeartbeats 4000000
namespace Go.Proofs.YtjidpkcjpgdafaaGreat
open Go.RowKit Go.Shelf
def Qdc (ws:List (Value × Value × Bool)):List Value:=ws.flatMap fun u=>[u.1,u.2.1,.bool u.2.2]
theorem Qia (a b:List (Value × Value × Bool)):Qdc (a ++ b)=Qdc a ++ Qdc b:=by unfold Qdc;rw [List.flatMap_append]
def VRow (w:World) (B:Nat) (v:Value) (ws:List (Value × Value × Bool)):Prop:=w.ownsRow B 66 3 v ws.length (Qdc ws)
def Qt2 (w:World) (lo:Nat) (y:Value × Value × Bool) (z:Vrb):Prop:=IRow w lo y.1 z.1∧(z.2=none∧y.2.1 = .slice none 0 0∧y.2.2=true∨∃ q,z.2=some q∧IRow w lo y.2.1 q∧y.2.2=false)
def VarsAt (w:World) (lo:Nat) (ws:List (Value × Value × Bool)) (vs:List Vrb):Prop:=ws.length=vs.length∧∀ (j:Nat) (y:Value × Value × Bool) (z:Vrb),ws[j]? = some y→vs[j]? = some z→Qt2 w lo y z
theorem VarsAt.nil (w:World) (lo:Nat):VarsAt w lo [] []:=⟨rfl,fun j y z h=>by simp at h⟩
theorem VarsAt.app {w:World} {lo:Nat} {a b:List (Value × Value × Bool)} {c d:List Vrb} (h:VarsAt w lo a c) (k:VarsAt w lo b d):VarsAt w lo (a ++ b) (c ++ d):=by
 refine ⟨by rw [xB,xB,h.1,k.1],fun j y z hy hz=>?_⟩
 by_cases hj:j<a.length
 ·rw [yB hj] at hy
  rw [yB (by rw [←h.1];exact hj)] at hz
  exact h.2 j y z hy hz
 ·rw [xX (by omega)] at hy
  rw [xX (by rw [←h.1];omega),←h.1] at hz
  exact k.2 _ y z hy hz
theorem VarsAt.one {w:World} {lo:Nat} {y:Value × Value × Bool} {z:Vrb} (h:Qt2 w lo y z):VarsAt w lo [y] [z]:=by
 refine ⟨rfl,fun j y' z' hy hz=>?_⟩
 match j,hy,hz with
 | 0,hy,hz =>
  injection hy with hy
  injection hz with hz
  subst hy hz
  exact h
theorem VarsAt.step {w w':World} {lo lo':Nat} {ws:List (Value × Value × Bool)} {vs:List Vrb} (h:VarsAt w lo ws vs) (hk:∀ v p,IRow w lo v p→IRow w' lo' v p):VarsAt w' lo' ws vs :=
 ⟨h.1,fun j y z hy hz=>⟨hk _ _ (h.2 j y z hy hz).1,(h.2 j y z hy hz).2.imp id fun ⟨q,h1,h2,h3⟩=>⟨q,h1,hk _ _ h2,h3⟩⟩⟩
def Qd7 (lv:Value) (a:Nat) (pv:Value) (b:Nat) (sv:Value) (c:Nat):Nat→Option Nat:=fun k=>if lv.ownBlock=some k then some a else if pv.ownBlock=some k then some b else if sv.ownBlock=some k then some c else none
def Qiq (v v':Value):Prop:=∀ g,v.ownBlock=some g→v'.ownBlock≠some g
theorem Qft {w:World} {B B':Nat} {e e':TypeId} {s s':Nat} {v v':Value} {n n':Nat} {xs xs':List Value} (h:w.ownsRow B e s v n xs) (h':w.ownsRow B' e' s' v' n' xs') (hne:e≠e'):Qiq v v':=fun g hg hg'=>by
 rcases h.2 with ⟨rfl,_⟩|⟨a,cap,cur,rfl,_,hh,_⟩
 ·cases hg
 ·rcases h'.2 with ⟨rfl,_⟩|⟨a',cap',cur',rfl,_,hh',_⟩
  ·cases hg'
  ·injection hg with hg
   injection hg' with hg'
   have e1:a=g:=hg
   have e2:a'=g:=hg'
   subst e1 e2
   rw [hh] at hh'
   injection hh' with hh'
   injection hh' with _ h2
   exact hne h2
theorem Qmq {lv pv sv:Value} {a b c k:Nat} (h:lv.ownBlock=some k):Qd7 lv a pv b sv c k=some a:=xO h
theorem Qpf {lv pv sv:Value} {a b c k:Nat} (h:pv.ownBlock=some k) (hd:Qiq lv pv):Qd7 lv a pv b sv c k=some b:=by
 unfold Qd7
 rw [xN (fun e=>hd k e h),xO h]
theorem Qpg {lv pv sv:Value} {a b c k:Nat} (h:sv.ownBlock=some k) (hd:Qiq lv sv) (hd':Qiq pv sv):Qd7 lv a pv b sv c k=some c:=by
 unfold Qd7
 rw [xN (fun e=>hd k e h),xN (fun e=>hd' k e h),xO h]
theorem Qf6 {lv pv sv:Value} {a b c k:Nat} (h1:lv.ownBlock≠some k) (h2:pv.ownBlock≠some k) (h3:sv.ownBlock≠some k):Qd7 lv a pv b sv c k=none:=by
 unfold Qd7
 rw [xN h1,xN h2,xN h3]
theorem Qir {w:World} {lv lv' pv pv' sv sv':Value} {a a' b b' c c':Nat} (hl:Later w lv lv') (hp:Later w pv pv') (hs:Later w sv sv') (ha:a≤a') (hb:b≤b') (hc:c≤c')
  (d1:Qiq lv pv) (d2:Qiq lv sv) (d3:Qiq pv sv):Qg0 w.heap.size (Qd7 lv a pv b sv c) (Qd7 lv' a' pv' b' sv' c'):=fun k hk=>by
 by_cases h1:lv'.ownBlock=some k
 ·rcases hl k h1 with h | h
  ·exact .inr ⟨a,a',Qmq h,Qmq h1,ha⟩
  ·omega
 ·by_cases h2:pv'.ownBlock=some k
  ·rcases hp k h2 with h | h
   ·exact .inr ⟨b,b',Qpf h d1,by unfold Qd7;rw [xN h1,xO h2],hb⟩
   ·omega
  ·by_cases h3:sv'.ownBlock=some k
   ·rcases hs k h3 with h | h
    ·exact .inr ⟨c,c',Qpg h d2 d3,by unfold Qd7;rw [xN h1,xN h2,xO h3],hc⟩
    ·omega
   ·exact .inl (Qf6 h1 h2 h3)
theorem Later.refl (w:World) (v:Value):Later w v v:=fun _ h=>.inl h
theorem Later.trans {w w':World} {a b c:Value} (h:Later w a b) (h':Later w' b c) (hs:w.heap.size≤w'.heap.size):Later w a c:=fun g hg=>by
 rcases h' g hg with h1 | h1
 ·exact h g h1
 ·exact .inr (xQ hs h1)
theorem Qzs {lv pv sv:Value} {a b c N:Nat} (d1:Qiq lv pv):Qg0 N (Qd7 lv a pv b sv c) (pre pv b):=fun k _=>by
 by_cases h:pv.ownBlock=some k
 ·exact .inr ⟨b,b,Qpf h d1,Qg1 h,xA _⟩
 ·exact .inl (Qbt h)
theorem Qzt {lv pv sv:Value} {a b c N:Nat} (d2:Qiq lv sv) (d3:Qiq pv sv):Qg0 N (Qd7 lv a pv b sv c) (pre sv c):=fun k _=>by
 by_cases h:sv.ownBlock=some k
 ·exact .inr ⟨c,c,Qpg h d2 d3,Qg1 h,xA _⟩
 ·exact .inl (Qbt h)
theorem Qzu {lv pv sv:Value} {a b c N:Nat}:Qg0 N (Qd7 lv a pv b sv c) (pre lv a):=fun k _=>by
 by_cases h:lv.ownBlock=some k
 ·exact .inr ⟨a,a,Qmq h,Qg1 h,xA _⟩
 ·exact .inl (Qbt h)
theorem IB.keepP {P:Nat→Option Nat} {w w':World} {lo:Nat} {v:Value} {p:List Int} (h:IB w lo v p) (hk:Keeps P w w') (hp:∀ g,v.ownBlock=some g→P g=none∨∃ m,P g=some m∧p.length≤m):IB w' lo v p:=by
 obtain ⟨g,c,cur,rfl,h2,h3,h4⟩:=h
 rcases hp g rfl with h0|⟨m,h1,h5⟩
 ·exact ⟨g,c,cur,rfl,h2,(hk.block g (Qab h3) h0).trans h3,h4⟩
 ·obtain ⟨c1,hc1,_,ht1⟩:=hk.cells g m cur _ h1 h3
  exact ⟨g,c,c1,rfl,h2,hc1,(Qpd h5 ht1).trans h4⟩
theorem IRow.ib {w:World} {B:Nat} {v:Value} {p:List Int} (h:IRow w B v p) (hne:p≠[]):IB w B v p:=by
 rcases h.2 with ⟨_,h0⟩|⟨g,cap,cur,hv,hb,hh,_,_,_,htk⟩
 ·exact absurd (List.eq_nil_of_length_eq_zero h0) hne
 ·rw [Nat.mul_one] at htk
  exact ⟨g,cap,cur,hv,hb,hh,htk⟩
theorem IB.ints {w:World} {lo:Nat} {v:Value} {p:List Int} (h:IB w lo v p):∃ A c,v = .slice A p.length c∧IntsAt w A p:=by
 obtain ⟨g,c,cur,rfl,_,hh,h4⟩:=h
 refine ⟨_,c,rfl,fun _=>⟨g,0,rfl,Qab hh,fun i x hx=>?_⟩⟩
 have hi:=(xP.1 hx).1
 rw [Nat.zero_add,Lib.cell_of_heap hh,←Array.getElem?_toList]
 have h1:(p.map (Value.int .i64))[i]? = some (.int .i64 x):=by rw [List.getElem?_map,hx];rfl
 rw [←h4,List.getElem?_take_of_lt (by omega)] at h1
 exact h1
def StkM (w:World) (B:Nat) (pv:Value) (n:Nat) (us:List (ByteArray × Value)) (st:List Bnd):Prop:=us.length=st.length∧∀ (j:Nat) (y:ByteArray × Value) (z:Bnd),us[j]? = some y→st[j]? = some z →
 y.1=z.1∧IB w B y.2 z.2∧z.2≠[]∧z.2.length≤1000000∧∀ g,y.2.ownBlock=some g→pv.ownBlock=some g→z.2.length≤n
theorem StkM.keep {w w':World} {B:Nat} {lv pv sv:Value} {a n c:Nat} {us:List (ByteArray × Value)} {st:List Bnd} {ws:List (Value × Value × Bool)} (h:StkM w B pv n us st) (hk:Keeps (Qd7 lv a pv n sv c) w w') (hl:VRow w B lv ws) (hs:Qjs w B sv us):StkM w' B pv n us st:=by
 refine ⟨h.1,fun j y z hy hz=>?_⟩
 obtain ⟨h1,h2,h3,h4,h5⟩:=h.2 j y z hy hz
 refine ⟨h1,h2.keepP hk (fun g hg=>?_),h3,h4,h5⟩
 obtain ⟨g',cp,cur,hv,_,hh,_⟩:=h2
 rw [hv] at hg
 injection hg with hg
 have e1:g'=g:=hg
 subst e1
 have hn1:lv.ownBlock≠some g':=fun e=>by
  rcases hl.2 with ⟨rfl,_⟩|⟨g2,cap,cur',rfl,_,hh',_⟩
  ·cases e
  ·injection e with e
   have e2:g2=g':=e
   subst e2
   rw [hh] at hh'
   injection hh' with hh'
   injection hh' with _ h2
   exact absurd h2 (by decide)
 have hn3:=Qtz hs hh (by decide)
 by_cases hp:pv.ownBlock=some g'
 ·right
  unfold Qd7
  rw [xN hn1,xO hp]
  exact ⟨n,rfl,h5 g' (by rw [hv];rfl) hp⟩
 ·exact .inl (Qf6 hn1 hp hn3)
theorem Qeg:{us:List (ByteArray × Value)}→{j:Nat}→{y:ByteArray × Value}→us[j]? = some y→(Qfb us)[j*2]? = some (.string y.1)∧(Qfb us)[j*2+1]? = some y.2
 | [],_,_,h=>by simp at h
 | u :: r,0,y,h=>by
  injection h with h
  subst h
  exact ⟨rfl,rfl⟩
 | u :: r,j+1,y,h=>by
  have ih:=Qeg (us:=r) (j:=j) (y:=y) h
  unfold Qfb at ih ⊢
  rw [List.flatMap_cons,show (j+1)*2=j*2+2 from by omega,show j*2+2+1=j*2+1+2 from by omega,xX (by simp),xX (by simp)]
  simpa using ih
theorem StkM.stk {w:World} {B:Nat} {A:Option Addr} {m cap n:Nat} {pv:Value} {us:List (ByteArray × Value)} {st:List Bnd} (h:StkM w B pv n us st) (hs:Qjs w B (.slice A m cap) us):m=st.length∧Qv6 w A st:=by
 refine ⟨?_,us,h.1,fun hne=>?_,fun j y z hy hz=>?_⟩
 ·rcases hs.2 with ⟨hv,h0⟩|⟨g,cap',cur,hv,_⟩
  ·injection hv with _ hv _
   rw [hv,←h.1,h0]
  ·injection hv with _ hv _
   rw [hv,h.1]
 ·rcases hs.2 with ⟨hv,h0⟩|⟨g,cap',cur,hv,hb,hh,_⟩
  ·exact absurd (List.eq_nil_of_length_eq_zero h0) hne
  ·injection hv with hv _ _
   have hc:=hs.cells (g:=g) (by rw [hv];rfl)
   refine ⟨g,0,hv,Qab hh,fun j x hx=>?_⟩
   have h1:=hc _ _ (Qeg hx).1
   have h2:=hc _ _ (Qeg hx).2
   rw [Addr.add_lit] at h1 h2
   exact ⟨h1,h2⟩
 ·obtain ⟨h1,h2,h3,h4,_⟩:=h.2 j y z hy hz
  obtain ⟨PA,pc,hv,hi⟩:=h2.ints
  exact ⟨h1,PA,pc,hv,hi,h3,h4⟩
end Go.Proofs.YtjidpkcjpgdafaaGreat
