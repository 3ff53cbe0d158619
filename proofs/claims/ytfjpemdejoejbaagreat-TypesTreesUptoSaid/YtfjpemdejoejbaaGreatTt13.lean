/- Part 13 -/
import Derived.Test.YtfjpemdejoejbaaGreatTt12
set_option maxRecDepth 100000
set_option maxHeartbeats 4000000
namespace Go.Proofs.YtfjpemdejoejbaaGreat
open Go.RowKit
def StrsAt (S:Nat→Prop) (w:World) (A:Option Addr) (l:List ByteArray):Prop :=
 l≠[]→∃ b off,A=some ⟨b,off,none⟩∧S b∧∀ (i:Nat) (x:ByteArray),l[i]? = some x→w.cell? ⟨b,off+i,none⟩=some (.string x)
structure TV where
 kind:Int
 text:ByteArray
 la:Option Addr
 ll:Nat
 lc:Nat
 ka:Option Addr
 kl:Nat
 kc:Nat
def TV.cells (v:TV):List Value:=[.int .i64 v.kind,.string v.text,.slice v.la v.ll v.lc,.slice v.ka v.kl v.kc]
mutual
def TrAt (S:Nat→Prop) (w:World):Tr→TV→Prop
 | .mk k x ls ks,v=>v.kind=k∧v.text=x∧v.ll=ls.length∧v.kl=ks.length∧StrsAt S w v.la ls∧(ks≠[]→∃ b off,v.ka=some ⟨b,off,none⟩∧S b∧TrsAt S w b off ks)∧v.ll≤v.lc∧v.kl≤v.kc
def TrsAt (S:Nat→Prop) (w:World) (b:Nat):Nat→List Tr→Prop
 | _,[]=>True
 | off,t :: r=>∃ v:TV,w.cell? ⟨b,off,none⟩=some (.int .i64 v.kind)∧w.cell? ⟨b,off+1,none⟩=some (.string v.text)∧w.cell? ⟨b,off+2,none⟩=some (.slice v.la v.ll v.lc)∧w.cell? ⟨b,off+3,none⟩=some (.slice v.ka v.kl v.kc)∧TrAt S w t v∧TrsAt S w b (off+4) r
end
theorem StrsAt.move {S S':Nat→Prop} {w w':World} {A:Option Addr} {l:List ByteArray} (h:StrsAt S w A l) (hS:∀ b,S b→S' b) (hw:∀ b,S b→b<w.heap.size→w'.heap[b]? = w.heap[b]?):StrsAt S' w' A l:=fun hne=>by
 obtain ⟨b,off,hA,hb,hc⟩:=h hne;refine ⟨b,off,hA,hS b hb,fun i x hx=>?_⟩;have h1:=hc i x hx;have hlt:b<w.heap.size:=xK w _ h1;exact (xJ (w:=w) (a:=⟨b,off+i,none⟩) (hw b hb hlt)).trans h1
mutual
theorem TrAt.move {S S':Nat→Prop} {w w':World} (hS:∀ b,S b→S' b) (hw:∀ b,S b→b<w.heap.size→w'.heap[b]? = w.heap[b]?):(t:Tr)→(v:TV)→TrAt S w t v→TrAt S' w' t v
 | .mk k x ls ks,v,h=>by
  unfold TrAt at h ⊢;obtain ⟨h1,h2,h3,h4,h5,h6,h7⟩:=h;refine ⟨h1,h2,h3,h4,h5.move hS hw,fun hne=>?_,h7⟩;obtain ⟨b,off,hA,hb,hc⟩:=h6 hne;exact ⟨b,off,hA,hS b hb,TrsAt.move hS hw b hb ks off hc⟩
theorem TrsAt.move {S S':Nat→Prop} {w w':World} (hS:∀ b,S b→S' b) (hw:∀ b,S b→b<w.heap.size→w'.heap[b]? = w.heap[b]?) (b:Nat) (hb:S b):(l:List Tr)→(off:Nat)→TrsAt S w b off l→TrsAt S' w' b off l
 | [],off,h=>trivial
 | t :: r,off,h=>by
  unfold TrsAt at h ⊢;obtain ⟨v,c0,c1,c2,c3,ht,hr⟩:=h;have hlt:b<w.heap.size:=xK w _ c0;have hk:∀ o,w'.cell? ⟨b,o,none⟩=w.cell? ⟨b,o,none⟩:=fun o=>xJ (w:=w) (a:=⟨b,o,none⟩) (hw b hb hlt)
  exact ⟨v,(hk _).trans c0,(hk _).trans c1,(hk _).trans c2,(hk _).trans c3,TrAt.move hS hw t v ht,TrsAt.move hS hw b hb r _ hr⟩
end
theorem TrsAt.get {S:Nat→Prop} {w:World} {b:Nat}:(l:List Tr)→(off:Nat)→TrsAt S w b off l→(i:Nat)→(t:Tr)→l[i]? = some t →
  ∃ v:TV,w.cell? ⟨b,off+i*4,none⟩=some (.int .i64 v.kind)∧w.cell? ⟨b,off+i*4+1,none⟩=some (.string v.text)∧w.cell? ⟨b,off+i*4+2,none⟩=some (.slice v.la v.ll v.lc)∧w.cell? ⟨b,off+i*4+3,none⟩=some (.slice v.ka v.kl v.kc)∧TrAt S w t v
 | [],_,_,i,t,ht=>by simp at ht
 | a :: r,off,h,i,t,ht=>by
  unfold TrsAt at h;obtain ⟨v,c0,c1,c2,c3,hv,hr⟩:=h;cases i with
  | zero =>
   simp at ht
   subst ht;simp only [Nat.zero_mul,Nat.add_zero];exact ⟨v,c0,c1,c2,c3,hv⟩
  | succ i =>
   have:=TrsAt.get r (off+4) hr i t (by simpa using ht)
   rw [show off+(i+1)*4=off+4+i*4 from by omega];exact this
theorem TrsAt.of {S:Nat→Prop} {w:World} {b:Nat}:(l:List Tr)→(off:Nat)→(∀ (i:Nat) (t:Tr),l[i]? = some t →
  ∃ v:TV,w.cell? ⟨b,off+i*4,none⟩=some (.int .i64 v.kind)∧w.cell? ⟨b,off+i*4+1,none⟩=some (.string v.text)∧w.cell? ⟨b,off+i*4+2,none⟩=some (.slice v.la v.ll v.lc)∧w.cell? ⟨b,off+i*4+3,none⟩=some (.slice v.ka v.kl v.kc)∧TrAt S w t v)→TrsAt S w b off l
 | [],_,_=>trivial
 | a :: r,off,h=>by
  unfold TrsAt;obtain ⟨v,c0,c1,c2,c3,hv⟩:=h 0 a rfl;simp only [Nat.zero_mul,Nat.add_zero] at c0 c1 c2 c3;refine ⟨v,c0,c1,c2,c3,hv,TrsAt.of r (off+4) fun i t ht=>?_⟩;have:=h (i+1) t (by simpa using ht)
  rw [show off+(i+1)*4=off+4+i*4 from by omega] at this;exact this
def Qaf (vs:List TV):List Value:=vs.flatMap TV.cells
theorem Qfv (vs:List TV):(Qaf vs).length=vs.length*4:=by
 induction vs with
 | nil=>rfl
 | cons v r ih =>
  unfold Qaf at ih ⊢;rw [List.flatMap_cons,xB,ih,xD]
  show 4+_=_
  omega
theorem Qhr (vs us:List TV):Qaf (vs ++ us)=Qaf vs ++ Qaf us:=by
 unfold Qaf;rw [List.flatMap_append]
theorem Qgm (vs:List TV):∀ (i:Nat) (v:TV),vs[i]? = some v→(Qaf vs)[i*4]? = some (.int .i64 v.kind)∧(Qaf vs)[i*4+1]? = some (.string v.text)∧(Qaf vs)[i*4+2]? = some (.slice v.la v.ll v.lc)∧(Qaf vs)[i*4+3]? = some (.slice v.ka v.kl v.kc):=by
 induction vs with
 | nil=>intro i v h;simp at h
 | cons a r ih =>
  intro i v h;have hs:Qaf (a :: r)=a.cells ++ Qaf r:=by unfold Qaf;rw [List.flatMap_cons]
  rw [hs];cases i with
  | zero =>
   simp at h
   subst h;exact ⟨rfl,rfl,rfl,rfl⟩
  | succ i =>
   have h4:a.cells.length=4:=rfl;have:=ih i v (by simpa using h)
   rw [xX (by omega),xX (by omega),xX (by omega),xX (by omega),h4];rw [show (i+1)*4-4=i*4 from by omega,show (i+1)*4+1-4=i*4+1 from by omega,show (i+1)*4+2-4=i*4+2 from by omega,show (i+1)*4+3-4=i*4+3 from by omega];exact this
theorem Qqb (vs:List TV):∀ u∈Qaf vs,u.oneCell'=true:=by
 intro u hu;unfold Qaf at hu;rw [List.mem_flatMap] at hu;obtain ⟨v,_,hv⟩:=hu;simp [TV.cells] at hv
 rcases hv with rfl | rfl | rfl | rfl <;> rfl
end Go.Proofs.YtfjpemdejoejbaaGreat
