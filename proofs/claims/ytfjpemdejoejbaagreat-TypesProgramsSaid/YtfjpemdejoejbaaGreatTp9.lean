/- Part 9 -/
import Derived.Test.YtfjpemdejoejbaaGreatTp8
set_option maxRecDepth 100000
set_option maxHeartbeats 4000000
namespace Go.Proofs.YtfjpemdejoejbaaGreat
open Go.Proofs.Tryz Go.RowKit
theorem Qm5{T:Int->PS->Option (Tr × PS)}{x:Part}:∀ (n:Nat) (more:Bool) (ks:List Tr) (cs:List yD) (p:PS) (r:List Tr × List yD × PS),Qdj T x n more ks cs p=some r->r.1.length<=ks.length+n/\r.2.1.length<=cs.length+n:=by
 intro n
 induction n with
 | zero =>
  intro more ks cs p r h
  cases more
  ·have:=Qfq h
   subst this;exact⟨xA _,xA _⟩
  ·unfold Qdj at h;cases h
 | succ n ih =>
  intro more ks cs p r h
  cases more
  ·have:=Qfq h
   subst this;exact⟨Nat.le_add_right _ _,Nat.le_add_right _ _⟩
  ·obtain⟨t,q,_,hw⟩:=Qh9 h
   rcases hw with⟨_,_,hs⟩|⟨_,_,hs⟩|⟨_,hs⟩
   ·have:=ih _ _ _ _ _ hs
    simp only[xB,List.length_singleton]at this;omega
   ·have:=ih _ _ _ _ _ hs
    simp only[xB,List.length_singleton]at this;omega
   ·have:=ih _ _ _ _ _ hs
    simp only[xB,List.length_singleton]at this;omega
theorem Qxo:∀ n:Fin 23,(Qae ((n.val:Nat):Int)).length<=9/\∀ x∈Qae ((n.val:Nat):Int),x.nm<=7:=by decide
theorem Qrl(k:Int):(Qae k).length<=9/\∀ x∈Qae k,x.nm<=7:=by
 by_cases h:k<=0\/23<=k
 ·rw[Qd0 h];exact⟨by decide,fun x hx=>by simp at hx⟩
 ·have:=Qxo ⟨k.toNat,by omega⟩
  rw[show(((⟨k.toNat,by omega⟩:Fin 23).val:Nat):Int)=k from by show((k.toNat:Nat):Int)=k;omega]at this;exact this
theorem Qi6(k:Int):(Qae k).length<=9:=(Qrl k).1
theorem Qit(k:Int):∀ x∈Qae k,x.nm<=7:=(Qrl k).2
theorem Qia{g k:Nat}(h:blk (some ⟨g,0,none⟩)=some k):g=k:=by simpa [blk] using h
theorem Qgv{w:World}{B n c:Nat}{e:TypeId}{size:Nat}{a:yE}{xs:List Value}(h:w.ownsRow B e size (.slice a n c) n xs):n<=c:=by
 rcases h.2 with⟨hv,h0⟩|⟨g,cap,cur,hv,_,_,hn,_⟩
 ·omega
 ·injection hv with _ _ h3;omega
structure NodeI (b tb B:Nat) (w1 w:World) (kind:Int) (text:yD) (leads:List yD) (la:yE) (lc:Nat) (kids:List Tr) (ka:yE) (kc:Nat) (commas:List yD) (ca:yE) (cc:Nat) (p:PS):Prop where
 heap:w.heap[tb]? = some (.cells #[.int .i64 kind,.string text,.slice la leads.length lc,.slice ka kids.length kc] 25 (0,0))
 leads:LeadsAt B w la lc leads
 kids:KidsAt B (fun k=>blk la=some k) w ka kc kids
 commas:LeadsAt B w ca cc commas
 apart:∀ k,blk ca=some k->blk la≠some k
 state:PIn w b p
 rest:Rest (fun k=>k=b\/k=tb) w1 w
 base:B=w1.heap.size
 low:b<tb/\tb<B
section
variable {b tb B:Nat} {w1 w w':World} {kind:Int} {text:yD} {leads:List yD} {la:yE} {lc:Nat} {kids:List Tr} {ka:yE} {kc:Nat} {commas:List yD} {ca:yE} {cc:Nat} {p q:PS}
theorem NodeI.lt(h:NodeI b tb B w1 w kind text leads la lc kids ka kc commas ca cc p):B<=w.heap.size:=by rw[h.base];exact h.rest.size
theorem NodeI.lblk(h:NodeI b tb B w1 w kind text leads la lc kids ka kc commas ca cc p){k:Nat}(hk:blk la=some k):B<=k/\k<w.heap.size:=h.leads.blk hk
theorem NodeI.cblk(h:NodeI b tb B w1 w kind text leads la lc kids ka kc commas ca cc p){k:Nat}(hk:blk ca=some k):B<=k/\k<w.heap.size:=h.commas.blk hk
theorem NodeI.kblk(h:NodeI b tb B w1 w kind text leads la lc kids ka kc commas ca cc p){k:Nat}(hk:blk ka=some k):B<=k/\k<w.heap.size:=⟨(h.kids.blk hk).1,(h.kids.blk hk).2.1⟩
theorem NodeI.keep(h:NodeI b tb B w1 w kind text leads la lc kids ka kc commas ca cc p)(ho:Off b w w')(hp:PIn w' b q):NodeI b tb B w1 w' kind text leads la lc kids ka kc commas ca cc q :=
 ⟨(ho.block tb (Qaa h.heap) (by have:=h.low;omega)).trans h.heap,Zi8 h.leads ho (by have:=h.low;omega),Zlm h.kids ho (by have:=h.low;omega),Zi8 h.commas ho (by have:=h.low;omega),h.apart,hp,h.rest.trans ((Rest.off ho).mono fun k _ e=>.inl e),h.base,h.low⟩
theorem NodeI.below(h:NodeI b tb B w1 w kind text leads la lc kids ka kc commas ca cc p)(ho:Below w.heap.size w w'):NodeI b tb B w1 w' kind text leads la lc kids ka kc commas ca cc p :=
 h.keep (Off.of ho) (h.state.keep ho)
theorem NodeI.tok{e:Ending}{r:yD × List yD × PS}(h:NodeI b tb B w1 w kind text leads la lc kids ka kc commas ca cc p)(hpost:Qkg b tb B kind (.slice ka kids.length kc) la r w e w') :
  e = .returned (.tuple #[])/\∃ la' lc',NodeI b tb B w1 w' kind r.1 r.2.1 la' lc' kids ka kc commas ca cc r.2.2:=by
 obtain⟨la',lc',he,hh,hl,hp,hr,hb⟩:=hpost
 refine⟨he,la',lc',hh,hl,?_,?_,?_,hp,?_,h.base,h.low⟩
 ·refine h.kids.rest hr (fun k _ hy=>?_) (fun k hk e=>?_) (fun k hk hy=>?_)
  ·have:=h.low
   rcases hy with rfl | rfl | hy
   ·exact .inl (by omega)
   ·exact .inl (by omega)
   ·exact .inr hy
  ·rcases hb k e with h' | h'
   ·exact h'
   ·omega
  ·have:=h.low
   have hB:=(h.kblk hk).1
   rcases hy with rfl | rfl | hy
   ·omega
   ·omega
   ·exact Qis h.kids h.leads hk hy
 ·refine h.commas.rest hr (fun k hk hy=>?_);have:=h.low
  have hB:=(h.cblk hk).1
  rcases hy with rfl | rfl | hy
  ·omega
  ·omega
  ·exact h.apart k hk hy
 ·intro k hk e
  rcases hb k e with h' | h'
  ·exact h.apart k hk h'
  ·have:=(h.cblk hk).2
   omega
 ·have hls:∀ k,blk la=some k->w1.heap.size<=k:=fun k hk=>by rw[<-h.base];exact(h.lblk hk).1
  exact⟨hr.os.trans h.rest.os,hr.tape.trans h.rest.tape,hr.output.trans h.rest.output,xQ h.rest.size hr.size,fun k hk hx=>(hr.block k (xE hk h.rest.size) (fun hy=>by
   rcases hy with h' | h' | h'
   ·exact hx (.inl h')
   ·exact hx (.inr h')
   ·have:=hls k h'
    omega)).trans (h.rest.block k hk hx)⟩
theorem NodeI.grow{wc w'':World}{us:List Tr}{vs xs:List TV}{g cap:Nat}(h:NodeI b tb B w1 w kind text leads la lc kids ka kc commas ca cc p)
  (ht:TrsIn (Ze9 B (fun k=>blk la=some k) w ka) w kids vs) (hu:TrsIn (fun k=>wc.heap.size<=k/\k<w.heap.size) w us xs) (hB:B<=wc.heap.size) (hkc:∀ k,blk ka=some k->k<wc.heap.size) (hlc:∀ k,blk la=some k->k<wc.heap.size)
  (hown:w'.ownsRow B 25 4 (.slice (some ⟨g,0,none⟩) (kids.length+us.length) cap) (kids.length+us.length) (Qag vs ++ Qag xs)) (hg:w.grownBy w' (Value.slice ka kids.length kc).ownBlock) (hat:(Value.slice ka kids.length kc).ownBlock=some g\/w.heap.size<=g)
  (hw:w''=w'.setCell ⟨tb,3,none⟩ (.slice (some ⟨g,0,none⟩) (kids.length+us.length) cap)):NodeI b tb B w1 w'' kind text leads la lc (kids ++ us) (some ⟨g,0,none⟩) cap commas ca cc p:=by
 have hlow:=h.low;have hlt:=h.lt;have hR:Rest (fun k=>blk ka=some k) w w':=Rest.grown hg (fun k hk=>by rwa[Qjo]at hk);have hS:Rest (fun k=>k=tb) w' w'':=by rw[hw];exact Rest.set (X:=fun k=>k=tb) rfl _ _
 have hgB:B<=g:=by
  rcases hown.2 with⟨hv,_⟩|⟨g',cap',cur,hv,hg',_⟩
  ·simp at hv
  ·simp at hv
   omega
 have hgt:g≠tb:=by omega
 have hka:∀ k,blk ka=some k->B<=k:=fun k hk=>(h.kblk hk).1
 have hh:w'.heap[tb]? = _:=(hR.block tb (Qaa h.heap) (fun e=>by have:=hka tb e;omega)).trans h.heap
 have hK:KidsAt B (fun k=>blk la=some k) w' (some ⟨g,0,none⟩) cap (kids ++ us):=by
  refine KidsAt.grow ht ?_ hown hg hat;exact hu.move (fun k hk=>⟨by omega,hk.2,fun e=>by have:=hkc k e;omega,fun e=>by have:=hlc k e;omega⟩) (fun _ _ _=>rfl)
 refine⟨?_,?_,?_,?_,h.apart,?_,?_,h.base,h.low⟩
 ·rw[hw,xB];exact Qa1 hh rfl
 ·exact(h.leads.rest hR (fun k hk e=>Qis h.kids h.leads e hk)).rest hS (fun k hk e=>by have:=(h.lblk hk).1;have:k=tb:=e;omega)
 ·exact hK.rest hS (fun k _ e=>.inl (by have:k=tb:=e;omega)) (fun _ _ h=>h) (fun k hk e=>hgt ((Qia hk).trans e))
 ·exact(h.commas.rest hR (fun k hk e=>Qis h.kids h.commas e hk)).rest hS (fun k hk e=>by have:=(h.cblk hk).1;have:k=tb:=e;omega)
 ·have hlt:=h.state.lt;exact h.state.upto fun k hk=>(hS.block k (by have:=hR.size;omega) (fun e:k=tb=>by omega)).trans (hR.block k (by omega) (fun e=>by have:=hka k e;omega))
 ·have hbase:=h.base;exact⟨hS.os.trans (hR.os.trans h.rest.os),hS.tape.trans (hR.tape.trans h.rest.tape),hS.output.trans (hR.output.trans h.rest.output),xQ h.rest.size (xQ hR.size hS.size),fun k hk hx=>(hS.block k (by have:=hR.size;have:=h.rest.size;omega) (fun e=>hx (.inr e))).trans ((hR.block k (xE hk h.rest.size) (fun e=>by have:=hka k e;omega)).trans (h.rest.block k hk hx))⟩
theorem NodeI.commas'{cs:List yD}{C:Nat}{ca':yE}{cc':Nat}(h:NodeI b tb B w1 w kind text leads la lc kids ka kc commas ca cc p)(hl:LeadsAt C w ca' cc' cs)(hC:∀ k,blk la=some k->k<C)(hB:B<=C):NodeI b tb B w1 w kind text leads la lc kids ka kc cs ca' cc' p :=
 ⟨h.heap,h.leads,h.kids,Qrg hl (fun k hk=>by rw[Qjo]at hk;have:=(hl.blk hk).1;omega),fun k hk e=>by have:=(hl.blk hk).1;have:=hC k e;omega,h.state,h.rest,h.base,h.low⟩
theorem NodeI.tree{L:Nat}(h:NodeI b tb B w1 w kind text leads la lc kids ka kc commas ca cc p)(hL:L<=B):TrAt (fun k=>L<=k/\k<w.heap.size) w (.mk kind text leads kids) ⟨kind,text,la,leads.length,lc,ka,kids.length,kc⟩:=by
 unfold TrAt;exact⟨rfl,rfl,rfl,rfl,h.leads.strs (fun k hk=>by have:=h.lblk hk;omega),h.kids.trs (fun k hk hlt=>by omega),Qgv h.leads,by obtain⟨vs,hv,_⟩:=h.kids;exact Qgv hv⟩
end
def Zi9(G:Int->PS->Option (Tr × PS)):Prop:=∀ (b:Nat) (k:Int) (p:PS) (t:Tr) (q:PS) (w:World),G k p=some (t,q)->PIn w b p->Calls prog 52 #[.pointer (some ⟨b,0,none⟩),.int .i64 k] w (Qqd b t q w)
def Zja(T:Int->PS->Option (Tr × PS))(n:Nat)(kind:Int)(r:Tr × PS)(b tb:Nat)(w1:World)(g:Nat)(u7 u15:Value)(wr:World):Prop :=
 ∃ (j:Nat) (text:yD) (leads:List yD) (la:yE) (lc:Nat) (kids:List Tr) (ka:yE) (kc:Nat) (commas:List yD) (ca:yE) (cc:Nat) (p:PS),u7 = .slice ca commas.length cc/\u15 = .int .i64 j/\j+g=(Qae kind).length /\
  NodeI b tb w1.heap.size w1 wr kind text leads la lc kids ka kc commas ca cc p/\Qgr T n kind ((Qae kind).drop j) text leads kids commas p=some r/\leads.length<=j/\kids.length<=j*65536/\commas.length<=65536/\(commas = []->ca=none/\cc=0)
theorem Qrm{T:Int->PS->Option (Tr × PS)}{n:Nat}{kind:Int}{text:yD}{leads:List yD}{kids:List Tr}{commas:List yD}{p:PS}{r:Tr × PS}(h:Qgr T n kind [] text leads kids commas p=some r):(.mk kind text (leads ++ commas) kids,p)=r:=by
 unfold Qgr at h
 simpa using h
theorem Qos{T:Int->PS->Option (Tr × PS)}{n:Nat}{kind:Int}{x:Part}{l:List Part}{text:yD}{leads:List yD}{kids:List Tr}{commas:List yD}{p:PS}{r:Tr × PS}(h:Qgr T n kind (x :: l) text leads kids commas p=some r) :
  (x.series=true/\∃ s,Qdj T x n (decide (0<x.least) || Qbw x.kids p != 0) [] [] p=some s/\Qgr T n kind l text leads (kids ++ s.1) s.2.1 s.2.2=some r) \/
  (x.series=false/\(x.kids != 0)=true/\∃ t q,T x.kids p=some (t,q)/\Qgr T n kind l text leads (kids ++ [t]) commas q=some r) \/
  (x.series=false/\(x.kids != 0)=false/\Qgr T n kind l (Qei x text leads p).1 (Qei x text leads p).2.1 kids commas (Qei x text leads p).2.2=some r):=by
 unfold Qgr at h
 cases hs:x.series
 ·rw[hs]at h;simp only[Bool.false_eq_true,if_false]at h
  by_cases hk:x.kids≠0
  ·rw[xO hk]at h;cases hT:T x.kids p with
   | none=>rw[hT]at h;cases h
   | some tq =>
    rw[hT]at h;exact .inr (.inl ⟨rfl,by simpa using hk,tq.1,tq.2,rfl,h⟩)
  ·rw[xN hk]at h;exact .inr (.inr ⟨rfl,by simpa using hk,h⟩)
 ·rw[hs]at h;simp only[if_true]at h;cases hS:Qdj T x n (decide (0<x.least) || Qbw x.kids p != 0) [] [] p with
  | none=>rw[hS]at h;cases h
  | some s =>
   rw[hS]at h;exact .inl ⟨rfl,s,rfl,h⟩
theorem NodeI.shut{b tb B g cap:Nat}{w1 w w' w'':World}{kind:Int}{text:yD}{leads:List yD}{la:yE}{lc:Nat}{kids:List Tr}{ka:yE}{kc:Nat}{commas:List yD}{ca:yE}{cc:Nat}{p:PS}
  (h:NodeI b tb B w1 w kind text leads la lc kids ka kc commas ca cc p) (hown:w'.ownsRow B 9 1 (.slice (some ⟨g,0,none⟩) (leads.length+commas.length) cap) (leads.length+commas.length) (leads.map Value.string ++ commas.map Value.string)) (hg:w.grownBy w' (Value.slice la leads.length lc).ownBlock) (hat:(Value.slice la leads.length lc).ownBlock=some g\/g=w.heap.size)
  (hw:w''=w'.setCell ⟨tb,2,none⟩ (.slice (some ⟨g,0,none⟩) (leads.length+commas.length) cap)):NodeI b tb B w1 w'' kind text (leads ++ commas) (some ⟨g,0,none⟩) cap kids ka kc [] none 0 p:=by
 have hlow:=h.low;have hlt:=h.lt;have hR:Rest (fun k=>blk la=some k) w w':=Rest.grown hg (fun k hk=>by rwa[Qjo]at hk);have hS:Rest (fun k=>k=tb) w' w'':=by rw[hw];exact Rest.set (X:=fun k=>k=tb) rfl _ _
 have hgB:B<=g:=by
  rcases hown.2 with⟨hv,_⟩|⟨g',cap',cur,hv,hg',_⟩
  ·simp at hv
  ·simp at hv
   omega
 have hla:∀ k,blk la=some k->B<=k:=fun k hk=>(h.lblk hk).1
 have hh:w'.heap[tb]? = _:=(hR.block tb (Qaa h.heap) (fun e=>by have:=hla tb e;omega)).trans h.heap
 have hL:LeadsAt B w' (some ⟨g,0,none⟩) cap (leads ++ commas):=by
  unfold LeadsAt;rw[xB,List.map_append];exact hown
 refine⟨?_,hL.rest hS (fun k hk e=>by have:=Qia hk;have:k=tb:=e;omega),?_,LeadsAt.nil _ _,fun k hk=>by simp[blk]at hk,?_,?_,h.base,h.low⟩
 ·rw[hw,xB];exact Qa1 hh rfl
 ·refine(h.kids.rest hR (fun k _ e=>.inr e) (fun k hk e=>?_) (fun k hk e=>Qis h.kids h.leads hk e)).rest hS (fun k _ e=>.inl (by have:k=tb:=e;omega)) (fun _ _ h=>h) (fun k hk e=>by have:=(h.kblk hk).1;have:k=tb:=e;omega);have:=Qia e
  subst this
  rcases hat with h' | h'
  ·rwa[Qjo]at h'
  ·omega
 ·have hlt:=h.state.lt;exact h.state.upto fun k hk=>(hS.block k (by have:=hR.size;omega) (fun e:k=tb=>by omega)).trans (hR.block k (by omega) (fun e=>by have:=hla k e;omega))
 ·have hbase:=h.base;exact⟨hS.os.trans (hR.os.trans h.rest.os),hS.tape.trans (hR.tape.trans h.rest.tape),hS.output.trans (hR.output.trans h.rest.output),xQ h.rest.size (xQ hR.size hS.size),fun k hk hx=>(hS.block k (by have:=hR.size;have:=h.rest.size;omega) (fun e=>hx (.inr e))).trans ((hR.block k (xE hk h.rest.size) (fun e=>by have:=hla k e;omega)).trans (h.rest.block k hk hx))⟩
theorem Rest.set1{w:World}(k o:Nat)(u:Value):Rest (fun j=>j=k) w (w.setCell ⟨k,o,none⟩ u):=Rest.set (X:=fun j=>j=k) rfl o u
theorem NodeI.write{b tb B:Nat}{w1 w w':World}{kind:Int}{text:yD}{leads:List yD}{la:yE}{lc:Nat}{kids:List Tr}{ka:yE}{kc:Nat}{commas:List yD}{ca:yE}{cc:Nat}{p:PS}
  (h:NodeI b tb B w1 w kind text leads la lc kids ka kc commas ca cc p) (hS:Rest (fun k=>k=tb) w w') (hh:w'.heap[tb]? = some (.cells #[.int .i64 kind,.string text,.slice la leads.length lc,.slice ka kids.length kc] 25 (0,0))):NodeI b tb B w1 w' kind text leads la lc kids ka kc commas ca cc p:=by
 have hlow:=h.low;have hlt:=h.lt;refine⟨hh,h.leads.rest hS (fun k hk e=>by have:=(h.lblk hk).1;have:k=tb:=e;omega),h.kids.rest hS (fun k _ e=>.inl (by have:k=tb:=e;omega)) (fun _ _ h=>h) (fun k hk e=>by have:=(h.kblk hk).1;have:k=tb:=e;omega),h.commas.rest hS (fun k hk e=>by have:=(h.cblk hk).1;have:k=tb:=e;omega),h.apart,?_,h.rest.trans (hS.mono fun k _ e=>.inr e),h.base,h.low⟩;have hlt:=h.state.lt;exact h.state.upto fun k hk=>hS.block k (by omega) (fun e:k=tb=>by omega)
theorem Qvf{b rb B:Nat}{w w1 W W':World}{kind:Int}{text:yD}{leads:List yD}{la:yE}{lc:Nat}{kids:List Tr}{ka:yE}{kc:Nat}{commas:List yD}{ca:yE}{cc:Nat}{p q:PS}{t:Tr}
  (h:NodeI b (w.heap.size+1) B w1 W kind text leads la lc kids ka kc commas ca cc p) (hb:Below w.heap.size w w1) (hlt:b<w.heap.size) (hrb:rb=w.heap.size) (hW:Rest (fun k=>k=rb) W W') (he:(Tr.mk kind text leads kids,p)=(t,q)) :
  Qqd b t q w (.returned (.agg #[.int .i64 kind,.string text,.slice la leads.length lc,.slice ka kids.length kc])) W':=by
 injection he with he1 he2;subst he1 he2;have hlow:=h.low;have hbase:=h.base
 refine⟨⟨kind,text,la,leads.length,lc,ka,kids.length,kc⟩,rfl,?_,?_,?_⟩
 ·refine TrAt.move (fun k hk=>⟨by omega,xE hk.2 hW.size⟩) (fun k hk hlt'=>hW.block k hlt' (fun e:k=rb=>by omega)) _ _ (h.tree (xA B))
 ·have hl:=h.state.lt;exact h.state.upto fun k hk=>hW.block k (by omega) (fun e:k=rb=>by omega)
 ·have h1:=h.rest;exact⟨hW.os.trans (h1.os.trans hb.os),hW.tape.trans (h1.tape.trans hb.tape),hW.output.trans (h1.output.trans hb.output),xQ hb.size (xQ h1.size hW.size),fun k hk hkb=>(hW.block k (by have:=hb.size;have:=h1.size;omega) (fun e:k=rb=>by omega)).trans ((h1.block k (by have:=hb.size;omega) (fun e=>by rcases e with e | e <;> omega)).trans (hb.block k hk))⟩
theorem NodeI.kid{b tb B g cap:Nat}{w1 W w6 w'':World}{kind:Int}{text:yD}{leads:List yD}{la:yE}{lc:Nat}{kids:List Tr}{ka:yE}{kc:Nat}{commas:List yD}{ca:yE}{cc:Nat}{p q:PS}{t:Tr}{v:TV}{vs:List TV}
  (h:NodeI b tb B w1 W kind text leads la lc kids ka kc commas ca cc p) (ht:TrsIn (Ze9 B (fun k=>blk la=some k) W ka) W kids vs) (hR:Rest (fun k=>k=b\/blk ka=some k) W w6)
  (hown:w6.ownsRow B 25 4 (.slice (some ⟨g,0,none⟩) (kids.length+1) cap) (kids.length+1) (Qag vs ++ v.cells)) (hv:TrAt (fun k=>W.heap.size<=k/\k<w6.heap.size/\k≠g) w6 t v) (hat:blk ka=some g\/W.heap.size<=g) (hp:PIn w6 b q)
  (hw:w''=w6.setCell ⟨tb,3,none⟩ (.slice (some ⟨g,0,none⟩) (kids.length+1) cap)):NodeI b tb B w1 w'' kind text leads la lc (kids ++ [t]) (some ⟨g,0,none⟩) cap commas ca cc q:=by
 have hlow:=h.low;have hlt:=h.lt;have hS:Rest (fun k=>k=tb) w6 w'':=by rw[hw];exact Rest.set1 _ _ _
 have hgB:B<=g:=by
  rcases hown.2 with⟨hv,_⟩|⟨g',cap',cur,hv,hg',_⟩
  ·simp at hv
  ·simp at hv
   omega
 have hka:∀ k,blk ka=some k->B<=k:=fun k hk=>(h.kblk hk).1
 have hh:w6.heap[tb]? = _:=(hR.block tb (Qaa h.heap) (fun e=>by rcases e with e | e;omega;have:=hka tb e;omega)).trans h.heap
 have hK:KidsAt B (fun k=>blk la=some k) w6 (some ⟨g,0,none⟩) cap (kids ++ [t]):=by
  refine⟨vs ++ [v],by rw[xB,Qfy];have e1:Qag [v] = v.cells:=(by unfold Qag;simp);rw[e1];exact hown,TrsIn.append (ht.move (fun k hk=>⟨hk.1,xE hk.2.1 hR.size,fun e=>?_,hk.2.2.2⟩) (fun k hk hlt=>hR.block k hlt fun e=>by rcases e with e | e;have:=hk.1;omega;exact hk.2.2.1 e)) (TrsIn.one (TrAt.move (fun k hk=>⟨by omega,hk.2.1,fun e=>hk.2.2 (Qia e).symm,fun e=>by have:=(h.lblk e).2;omega⟩) (fun _ _ _=>rfl) t v hv))⟩;have:=Qia e
  subst this
  rcases hat with h' | h'
  ·exact hk.2.2.1 h'
  ·have:=hk.2.1
   omega
 refine⟨?_,?_,?_,?_,h.apart,?_,?_,h.base,h.low⟩
 ·rw[hw,xB];exact Qa1 hh rfl
 ·exact(h.leads.rest hR (fun k hk e=>by rcases e with e | e;have:=(h.lblk hk).1;omega;exact Qis h.kids h.leads e hk)).rest hS (fun k hk e=>by have:=(h.lblk hk).1;have:k=tb:=e;omega)
 ·exact hK.rest hS (fun k _ e=>.inl (by have:k=tb:=e;omega)) (fun _ _ h=>h) (fun k hk e=>by have:=Qia hk;have:k=tb:=e;omega)
 ·exact(h.commas.rest hR (fun k hk e=>by rcases e with e | e;have:=(h.cblk hk).1;omega;exact Qis h.kids h.commas e hk)).rest hS (fun k hk e=>by have:=(h.cblk hk).1;have:k=tb:=e;omega)
 ·have hlt:=hp.lt;exact hp.upto fun k hk=>hS.block k (by omega) (fun e:k=tb=>by omega)
 ·have hbase:=h.base;exact⟨hS.os.trans (hR.os.trans h.rest.os),hS.tape.trans (hR.tape.trans h.rest.tape),hS.output.trans (hR.output.trans h.rest.output),xQ h.rest.size (xQ hR.size hS.size),fun k hk hx=>(hS.block k (by have:=hR.size;have:=h.rest.size;omega) (fun e=>hx (.inr e))).trans ((hR.block k (xE hk h.rest.size) (fun e=>by rcases e with e | e;exact hx (.inl e);have:=hka k e;omega)).trans (h.rest.block k hk hx))⟩
theorem Zjb{w:World}{B g n cap:Nat}{xs:List Value}{z0 z1 z2 z3:Value}(h:w.ownsRow B 25 4 (.slice (some ⟨g,0,none⟩) (n+1) cap) (n+1) (xs ++ [z0,z1,z2,z3]))(hl:xs.length=n*4)(v:TV) :
  ((((w.setCell ⟨g,n*4,none⟩ (.int .i64 v.kind)).setCell ⟨g,n*4+1,none⟩ (.string v.text)).setCell ⟨g,n*4+2,none⟩ (.slice v.la v.ll v.lc)).setCell ⟨g,n*4+3,none⟩ (.slice v.ka v.kl v.kc)).ownsRow B 25 4 (.slice (some ⟨g,0,none⟩) (n+1) cap) (n+1) (xs ++ v.cells):=by
 have h1:=(h.stored (n*4) (.int .i64 v.kind)).1;have h2:=(h1.stored (n*4+1) (.string v.text)).1;have h3:=(h2.stored (n*4+2) (.slice v.la v.ll v.lc)).1;have h4:=(h3.stored (n*4+3) (.slice v.ka v.kl v.kc)).1
 have e:((((xs ++ [z0,z1,z2,z3]).set (n*4) (.int .i64 v.kind)).set (n*4+1) (.string v.text)).set (n*4+2) (.slice v.la v.ll v.lc)).set (n*4+3) (.slice v.ka v.kl v.kc)=xs ++ v.cells:=by
  rw[<-hl,List.set_append_right _ _ (by omega),List.set_append_right _ _ (by omega),List.set_append_right _ _ (by omega),List.set_append_right _ _ (by omega)];simp[TV.cells,show xs.length+1-xs.length=1 from by omega,show xs.length+2-xs.length=2 from by omega,show xs.length+3-xs.length=3 from by omega]
 rw[e]at h4;exact h4
structure KS (b:Nat) (ka:yE) (W w:World) (p:PS):Prop where
 rest:Rest (fun k=>k=b\/blk ka=some k) W w
 state:PIn w b p
theorem KS.call{T:Int->PS->Option (Tr × PS)}(hT:Qxl T){b:Nat}{s:Int}{p q:PS}{t:Tr}{ka:yE}{W w:World}(ht:T s p=some (t,q))(h:KS b ka W w p) :
  Calls prog 85 #[.pointer (some ⟨b,0,none⟩),.int .i64 s] w fun e w'=>∃ v:TV,e = .returned (.agg #[.int .i64 v.kind,.string v.text,.slice v.la v.ll v.lc,.slice v.ka v.kl v.kc])/\KS b ka W w' q/\TrAt (fun k=>w.heap.size<=k/\k<w'.heap.size) w' t v/\Off b w w':=by
 refine(hT b s p t q w ht h.state).mono ?_;rintro e w'⟨v,rfl,htr,hp,ho⟩;exact⟨v,rfl,⟨h.rest.trans ((Rest.off ho).mono fun k _ e=>.inl e),hp⟩,htr,ho⟩
theorem Qvg{b tb B g cap:Nat}{w1 W wl:World}{kind:Int}{text:yD}{leads:List yD}{la:yE}{lc:Nat}{kids:List Tr}{ka:yE}{kc:Nat}{commas:List yD}{ca:yE}{cc:Nat}{p q:PS}{t:Tr}{v:TV}{vs:List TV}
  (h:NodeI b tb B w1 W kind text leads la lc kids ka kc commas ca cc p) (ht:TrsIn (Ze9 B (fun k=>blk la=some k) W ka) W kids vs) (fk:KS b ka W wl q)
  (fo:wl.ownsRow B 25 4 (.slice (some ⟨g,0,none⟩) (kids.length+1) cap) (kids.length+1) (Qag vs ++ [.int .i64 0,.string ⟨#[]⟩,.slice none 0 0,.slice none 0 0])) (ft:TrAt (fun k=>W.heap.size<=k/\k<wl.heap.size/\k≠g) wl t v) (fa:blk ka=some g\/W.heap.size<=g) :
  NodeI b tb B w1 (((((wl.setCell ⟨g,kids.length*4,none⟩ (.int .i64 v.kind)).setCell ⟨g,kids.length*4+1,none⟩ (.string v.text)).setCell ⟨g,kids.length*4+2,none⟩ (.slice v.la v.ll v.lc)).setCell ⟨g,kids.length*4+3,none⟩ (.slice v.ka v.kl v.kc)).setCell ⟨tb,3,none⟩ (.slice (some ⟨g,0,none⟩) (kids.length+1) cap)) kind text leads la lc (kids ++ [t]) (some ⟨g,0,none⟩) cap commas ca cc q:=by
 have hS:Rest (fun k=>k=g) wl ((((wl.setCell ⟨g,kids.length*4,none⟩ (.int .i64 v.kind)).setCell ⟨g,kids.length*4+1,none⟩ (.string v.text)).setCell ⟨g,kids.length*4+2,none⟩ (.slice v.la v.ll v.lc)).setCell ⟨g,kids.length*4+3,none⟩ (.slice v.ka v.kl v.kc)):=(((Rest.set1 _ _ _).trans (Rest.set1 _ _ _)).trans (Rest.set1 _ _ _)).trans (Rest.set1 _ _ _)
 have hgB:B<=g:=by
  rcases fo.2 with⟨hv,_⟩|⟨g',cap',cur,hv,hg',_⟩
  ·simp at hv
  ·simp at hv
   omega
 have hlow:=h.low;refine h.kid ht ?_ (Zjb fo (by rw[Qd6,ht.1]) v) (TrAt.move (fun k hk=>⟨hk.1,xE hk.2.1 hS.size,hk.2.2⟩) (fun k hk hlt=>hS.block k hlt (fun e:k=g=>hk.2.2 e)) t v ft) fa (fk.state.upto fun k hk=>hS.block k (by have:=fk.state.lt;omega) (fun e:k=g=>by omega)) rfl;have hf:=fk.rest;exact⟨hS.os.trans hf.os,hS.tape.trans hf.tape,hS.output.trans hf.output,xQ hf.size hS.size,fun k hk hx=>(hS.block k (by have:=hf.size;omega) (fun e:k=g=>by rcases fa with h' | h';exact hx (.inr (e ▸ h'));omega)).trans (hf.block k hk hx)⟩
theorem TrAt.up{t:Tr}{v:TV}{w:World}{A C D:Nat}(h:TrAt (fun k=>C<=k/\k<D) w t v)(hA:A<=C):TrAt (fun k=>A<=k/\k<D) w t v:=TrAt.move (fun k hk=>⟨by omega,hk.2⟩) (fun _ _ _=>rfl) t v h
theorem KS.grow0{b n c:Nat}{ka:yE}{W w w':World}{p:PS}(h:KS b ka W w p)(hg:w.grownBy w' (Value.slice ka n c).ownBlock)(hb:∀ k,blk ka=some k->b<k):KS b ka W w' p:=by
 have hR:Rest (fun k=>blk ka=some k) w w':=Rest.grown hg (fun k hk=>by rwa[Qjo]at hk);exact⟨h.rest.trans (hR.mono fun k _ e=>.inr e),h.state.upto fun k hk=>hR.block k (by have:=h.state.lt;omega) (fun e=>by have:=hb k e;omega)⟩
theorem Zan{t:Tr}{v:TV}{w w':World}{n c A D g:Nat}{ka:yE}(h:TrAt (fun k=>A<=k/\k<D) w t v)(hg:w.grownBy w' (Value.slice ka n c).ownBlock)(hD:D<=w.heap.size)(hk:∀ k,blk ka=some k->k<A)(hat:blk ka=some g\/D<=g):TrAt (fun k=>A<=k/\k<w'.heap.size/\k≠g) w' t v:=by
 have hR:Rest (fun k=>blk ka=some k) w w':=Rest.grown hg (fun k hk=>by rwa[Qjo]at hk);exact TrAt.move (fun k hk'=>⟨hk'.1,by have:=hR.size;omega,fun e=>by rcases hat with h' | h';have:=hk g h';omega;omega⟩) (fun k hk' hlt=>hR.block k hlt fun e=>by have:=hk k e;omega) t v h
theorem KS.alloc{b:Nat}{ka:yE}{W w:World}{p:PS}(h:KS b ka W w p)(o:Obj):KS b ka W (w.alloc o) p:=⟨h.rest.trans (Rest.alloc o),h.state.keep ((xC _ _).alloc (xA _) o)⟩
theorem Qvh{w:World}{b tb B g n m cap:Nat}{e:TypeId}{size:Nat}{xs:List Value}(hl:b<tb/\tb<B)(h:w.ownsRow B e size (.slice (some ⟨g,0,none⟩) n cap) m xs):tb≠g/\g≠b:=by
 have h1:B<=g:=(Qgf (k:=g) h rfl).1;omega
theorem Qg4(w:World)(a b i j:Nat)(x y:Value)(h:a≠b):(w.setCell ⟨a,i,none⟩ x).setCell ⟨b,j,none⟩ y=(w.setCell ⟨b,j,none⟩ y).setCell ⟨a,i,none⟩ x:=by
 unfold World.setCell;simp only[World.mk.injEq,and_self,and_true]
 apply Array.ext
 ·simp
 ·intro k h1 h2;simp only[Array.getElem_modify]
  by_cases ha:a=k
  ·by_cases hb:b=k
   ·omega
   ·simp[ha,hb]
  ·by_cases hb:b=k
   ·simp[ha,hb]
   ·simp[ha,hb]
theorem Zao{b tb B g cap:Nat}{w1 W wl:World}{kind:Int}{text:yD}{leads:List yD}{la:yE}{lc:Nat}{kids:List Tr}{ka:yE}{kc:Nat}{commas:List yD}{ca:yE}{cc:Nat}{p q:PS}{t:Tr}{v:TV}{vs:List TV}
  (h:NodeI b tb B w1 W kind text leads la lc kids ka kc commas ca cc p) (ht:TrsIn (Ze9 B (fun k=>blk la=some k) W ka) W kids vs) (fk:KS b ka W wl q)
  (fo:wl.ownsRow B 25 4 (.slice (some ⟨g,0,none⟩) (kids.length+1) cap) (kids.length+1) (Qag vs ++ [.int .i64 0,.string ⟨#[]⟩,.slice none 0 0,.slice none 0 0])) (ft:TrAt (fun k=>W.heap.size<=k/\k<wl.heap.size/\k≠g) wl t v) (fa:blk ka=some g\/W.heap.size<=g) :
  NodeI b tb B w1 (((((wl.setCell ⟨tb,3,none⟩ (.slice (some ⟨g,0,none⟩) (kids.length+1) cap)).setCell ⟨g,kids.length*4,none⟩ (.int .i64 v.kind)).setCell ⟨g,kids.length*4+1,none⟩ (.string v.text)).setCell ⟨g,kids.length*4+2,none⟩ (.slice v.la v.ll v.lc)).setCell ⟨g,kids.length*4+3,none⟩ (.slice v.ka v.kl v.kc)) kind text leads la lc (kids ++ [t]) (some ⟨g,0,none⟩) cap commas ca cc q:=by
 have hne:=(Qvh h.low fo).1;rw[Qg4 _ tb g _ _ _ _ hne,Qg4 _ tb g _ _ _ _ hne,Qg4 _ tb g _ _ _ _ hne,Qg4 _ tb g _ _ _ _ hne];exact Qvg h ht fk fo ft fa
theorem Qqe:∀ u∈([.int .i64 0,.string ⟨#[]⟩,.slice none 0 0,.slice none 0 0]:List Value),u.oneCell'=true:=by
 intro u hu;simp at hu
 rcases hu with rfl | rfl | rfl <;> rfl
theorem Qkj{w:World}{B g n cap:Nat}{xs:List Value}(h:w.ownsRow B 25 4 (.slice (some ⟨g,0,none⟩) (n+1) cap) (n+1) (xs ++ [.int .i64 0,.string ⟨#[]⟩,.slice none 0 0,.slice none 0 0]))(hl:xs.length=n*4) :
  (w.cell? ⟨g,n*4,none⟩=some (.int .i64 0)/\w.cell? ⟨g,n*4+1,none⟩=some (.string ⟨#[]⟩)/\w.cell? ⟨g,n*4+2,none⟩=some (.slice none 0 0)/\w.cell? ⟨g,n*4+3,none⟩=some (.slice none 0 0))/\∀ i,w.frozen? ⟨g,i,none⟩=false:=by
 have hk:∀ i u,([.int .i64 0,.string ⟨#[]⟩,.slice none 0 0,.slice none 0 0]:List Value)[i]? = some u->w.cell? ⟨g,n*4+i,none⟩=some u:=fun i u hu=>by
  have:=World.ownsRow.cells (g:=g) h rfl (n*4+i) u (by rw[xX (by omega),hl,Nat.add_sub_cancel_left];exact hu)
  rw[Qp6,Nat.zero_add]at this;exact this
 exact⟨⟨hk 0 _ rfl,hk 1 _ rfl,hk 2 _ rfl,hk 3 _ rfl⟩,fun i=>h.frozenAt i⟩
theorem Qhq{P:Program}{w:World}{ops:Array Oper}{rest:List Oper}{o:Oper}{a:Act}{Q:Exit->Act->World->Prop}(hgd:o.guard=none)(s x:Operand)(t:TypeId)
  (ho:o.op = .call { callee:=.builtin .append,args:=#[s,x],argTypes:=#[t,t] }) (base:Nat) (e:TypeId) (i:TypeInfo) (size:Nat) (ht:P.underlying t=some (.slice e)) (hi:P.info? e=some i)
  (v:Value) (n:Nat) (xs:List Value) (hs:a.eval s=v) (hown:w.ownsRow base e size v n xs) (hx:a.eval x = .slice none 0 0) (h:wpList P ops Q rest (a.put o.dst v) w):wpList P ops Q (o :: rest) a w:=by
 refine wpList_plain hgd fun K hK=>?_
 have hr:=run_append_owned_none (P:=P) w base t o.type e i size ht hi v n xs hown;unfold Oper.wp execOp;simp only[ho,resolve,invoke,builtin,Sem.run_bind,Sem.run_pure,Result.andThen_ok,List.map_toArray,List.map_cons,List.map_nil,hs,hx,hr];exact hK _ _ h
theorem Qjx(w:World)(o:Obj)(cs:Array Value)(T:TypeId):((w.alloc o).alloc (.cells cs T)).heap[w.heap.size+1]? = some (.cells cs T (0,0)):=by
 have:=xH (w.alloc o) (.cells cs T)
 rw[xI]at this;exact this
theorem Qot(x:Part)(text:yD)(leads:List yD)(p:PS):(Qei x text leads p).2.1.length<=leads.length+1:=by
 unfold Qei
 split
 ·simp
 ·exact Nat.le_succ _
theorem Zjc(n:Nat):(fnV n).oneCell'=true:=by
 match n with
 | 0=>rfl
 | 1=>rfl
 | 2=>rfl
 | 3=>rfl
 | 4=>rfl
 | 5=>rfl
 | 6=>rfl
 | n+7=>rfl
@[go_sem] theorem Zfu (P:Program) (w:World) (a:Addr) (m:Mode) (n:Nat):(store a (fnV n) m).run P w=stored P w a (fnV n) m:=run_store P w a _ m (Zjc n)
theorem Qkk{w:World}{pk:Nat}{cs:Array Value}{l:List Part}(hh:w.heap[pk]? = some (.cells cs 132 (0,0)))(hc:cs.toList=l.flatMap Qrd)(j:Nat)(x:Part)(hx:l[j]? = some x) :
  w.cell? ⟨pk,j*7,none⟩=some (.string x.word)/\w.cell? ⟨pk,j*7+1,none⟩=some (fnV x.nm)/\w.cell? ⟨pk,j*7+2,none⟩=some (.int .i64 x.kids)/\w.cell? ⟨pk,j*7+3,none⟩=some (.int .i64 x.least)/\w.cell? ⟨pk,j*7+4,none⟩=some (.int .i64 x.most)/\w.cell? ⟨pk,j*7+5,none⟩=some (.bool x.series)/\w.cell? ⟨pk,j*7+6,none⟩=some (.bool x.commas):=by
 have key:∀ (l:List Part) (j:Nat) (x:Part),l[j]? = some x->∀ i,i<7->(l.flatMap Qrd)[j*7+i]? = (Qrd x)[i]?:=by
  intro l
  induction l with
  | nil=>intro j x h;simp at h
  | cons a r ih =>
   intro j x h i hi;rw[List.flatMap_cons];cases j with
   | zero =>
    simp at h
    subst h;rw[yB (by show 0*7+i<7;omega)];simp
   | succ j =>
    rw[xX (by show 7<=(j+1)*7+i;omega)];have h7:(Qrd a).length=7:=rfl;rw[h7,show(j+1)*7+i-7=j*7+i from by omega];exact ih j x (by simpa using h) i hi
 have hk:∀ i u,i<7->(Qrd x)[i]? = some u->w.cell? ⟨pk,j*7+i,none⟩=some u:=fun i u hi hu=>by
  refine Qab hh _ _ ?_;have h2:cs[j*7+i]? = cs.toList[j*7+i]?:=by simp
  rw[h2,hc,key l j x hx i hi];exact hu
 exact⟨hk 0 _ (by decide) rfl,hk 1 _ (by decide) rfl,hk 2 _ (by decide) rfl,hk 3 _ (by decide) rfl,hk 4 _ (by decide) rfl,hk 5 _ (by decide) rfl,hk 6 _ (by decide) rfl⟩
end Go.Proofs.YtfjpemdejoejbaaGreat
