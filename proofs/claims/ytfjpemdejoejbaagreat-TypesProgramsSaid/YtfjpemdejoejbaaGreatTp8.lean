/- Part 8 -/
import Derived.Test.YtfjpemdejoejbaaGreatTp6
import Derived.Test.YtfjpemdejoejbaaGreatTp7
set_option maxRecDepth 100000
set_option maxHeartbeats 4000000
namespace Go.Proofs.YtfjpemdejoejbaaGreat
open Go.Proofs.Tryz Go.RowKit
def TrsIn(S:Nat->Prop)(w:World)(ts:List Tr)(vs:List TV):Prop:=vs.length=ts.length/\∀ (i:Nat) (t:Tr) (v:TV),ts[i]? = some t->vs[i]? = some v->TrAt S w t v
theorem TrsIn.nil(S:Nat->Prop)(w:World):TrsIn S w [] []:=⟨rfl,fun i t v h=>by simp at h⟩
theorem TrsIn.move{S S':Nat->Prop}{w w':World}{ts:List Tr}{vs:List TV}(h:TrsIn S w ts vs)(hS:∀ b,S b->S' b)(hw:∀ b,S b->b<w.heap.size->w'.heap[b]? = w.heap[b]?):TrsIn S' w' ts vs :=
 ⟨h.1,fun i t v ht hv=>TrAt.move hS hw t v (h.2 i t v ht hv)⟩
theorem TrsIn.append{S:Nat->Prop}{w:World}{ts us:List Tr}{vs xs:List TV}(h:TrsIn S w ts vs)(k:TrsIn S w us xs):TrsIn S w (ts ++ us) (vs ++ xs):=by
 refine⟨by rw[xB,xB,h.1,k.1],fun i t v ht hv=>?_⟩
 by_cases hi:i<ts.length
 ·rw[yB hi]at ht;rw[yB (by rw[h.1];exact hi)]at hv;exact h.2 i t v ht hv
 ·rw[xX (by omega)]at ht;rw[xX (by rw[h.1];omega),h.1]at hv;exact k.2 _ t v ht hv
theorem TrsIn.one{S:Nat->Prop}{w:World}{t:Tr}{v:TV}(h:TrAt S w t v):TrsIn S w [t] [v]:=by
 refine⟨rfl,fun i t' v' ht hv=>?_⟩;cases i with
 | zero=>simp at ht hv;subst ht hv;exact h
 | succ i=>simp at ht
def Ze9(B:Nat)(X:Nat->Prop)(w:World)(ka:yE)(k:Nat):Prop:=B<=k/\k<w.heap.size/\blk ka≠some k/\¬ X k
def KidsAt(B:Nat)(X:Nat->Prop)(w:World)(ka:yE)(kc:Nat)(ts:List Tr):Prop :=
 ∃ vs,w.ownsRow B 25 4 (.slice ka ts.length kc) ts.length (Qag vs)/\TrsIn (Ze9 B X w ka) w ts vs
theorem KidsAt.nil(B:Nat)(X:Nat->Prop)(w:World):KidsAt B X w none 0 []:=⟨[],World.ownsRow_nil _ _ _ _,TrsIn.nil _ _⟩
theorem Qgf{B n c m:Nat}{e:TypeId}{size:Nat}{w:World}{a:yE}{xs:List Value}(h:w.ownsRow B e size (.slice a n c) m xs){k:Nat}(hk:blk a=some k):B<=k/\k<w.heap.size/\∃ cur,w.heap[k]? = some (.cells cur e (0,0)):=by
 rcases h.2 with⟨hv,_⟩|⟨g,cap,cur,hv,hg,hh,_⟩
 ·injection hv with h1;rw[h1]at hk;exact absurd hk (by simp[blk])
 ·injection hv with h1;rw[h1]at hk;have:g=k:=by simpa [blk] using hk
  subst this;exact⟨hg,Qaa hh,cur,hh⟩
theorem KidsAt.blk{B:Nat}{X:Nat->Prop}{w:World}{ka:yE}{kc:Nat}{ts:List Tr}(h:KidsAt B X w ka kc ts){k:Nat}(hk:blk ka=some k):B<=k/\k<w.heap.size/\∃ cur,w.heap[k]? = some (.cells cur 25 (0,0)):=by
 obtain⟨vs,h,_⟩:=h;exact Qgf h hk
theorem Qis{B C:Nat}{X:Nat->Prop}{w:World}{ka la:yE}{kc lc:Nat}{ts:List Tr}{ls:List yD}(h:KidsAt B X w ka kc ts)(h':LeadsAt C w la lc ls){k:Nat}(hk:Go.Proofs.YtfjpemdejoejbaaGreat.blk ka=some k):Go.Proofs.YtfjpemdejoejbaaGreat.blk la≠some k:=fun hl=>by
 obtain⟨_,_,c1,e1⟩:=h.blk hk;obtain⟨_,_,c2,e2⟩:=Qgf h' hl;rw[e1]at e2;injection e2 with e2;injection e2 with _ e3;exact absurd e3 (by decide)
theorem KidsAt.rest{B:Nat}{X X' Y:Nat->Prop}{w w':World}{ka:yE}{kc:Nat}{ts:List Tr}(h:KidsAt B X w ka kc ts)(hw:Rest Y w w')(hY:∀ k,k<w.heap.size->Y k->k<B\/X k)(hX:∀ k,k<w.heap.size->X' k->X k)(hk:∀ k,Go.Proofs.YtfjpemdejoejbaaGreat.blk ka=some k->¬ Y k):KidsAt B X' w' ka kc ts:=by
 obtain⟨vs,h1,h2⟩:=h;refine⟨vs,Qde h1 hw (fun k hb=>hk k (by rwa[Qjo]at hb)),h2.move (fun b hb=>⟨hb.1,xE hb.2.1 hw.size,hb.2.2.1,fun hx=>hb.2.2.2 (hX b hb.2.1 hx)⟩) (fun b hb hlt=>hw.block b hlt fun hy=>?_)⟩
 rcases hY b hlt hy with h | h
 ·exact absurd hb.1 (by omega)
 ·exact hb.2.2.2 h
theorem KidsAt.grow{B g cap:Nat}{X:Nat->Prop}{w w':World}{ka:yE}{kc:Nat}{ts us:List Tr}{vs xs:List TV}(ht:TrsIn (Ze9 B X w ka) w ts vs)(hu:TrsIn (Ze9 B X w ka) w us xs)
  (hown:w'.ownsRow B 25 4 (.slice (some ⟨g,0,none⟩) (ts.length+us.length) cap) (ts.length+us.length) (Qag vs ++ Qag xs)) (hg:w.grownBy w' (Value.slice ka ts.length kc).ownBlock) (hat:(Value.slice ka ts.length kc).ownBlock=some g\/w.heap.size<=g):KidsAt B X w' (some ⟨g,0,none⟩) cap (ts ++ us):=by
 rw[Qjo]at hg hat;refine⟨vs ++ xs,by rw[xB,Qfy];exact hown,(ht.append hu).move (fun b hb=>⟨hb.1,xE hb.2.1 hg.size,fun e=>?_,hb.2.2.2⟩) (fun b hb hlt=>hg.block b hlt fun e=>hb.2.2.1 e.symm)⟩;have:g=b:=by simpa [Go.Proofs.YtfjpemdejoejbaaGreat.blk] using e
 subst this
 rcases hat with h | h
 ·exact hb.2.2.1 h
 ·have:=hb.2.1
  omega
theorem LeadsAt.rest{B:Nat}{Y:Nat->Prop}{w w':World}{la:yE}{lc:Nat}{ls:List yD}(h:LeadsAt B w la lc ls)(hw:Rest Y w w')(hk:∀ k,Go.Proofs.YtfjpemdejoejbaaGreat.blk la=some k->¬ Y k):LeadsAt B w' la lc ls :=
 Qde h hw (fun k hb=>hk k (by rwa[Qjo]at hb))
theorem LeadsAt.nil(B:Nat)(w:World):LeadsAt B w none 0 []:=World.ownsRow_nil _ _ _ _
theorem LeadsAt.strs{B:Nat}{S:Nat->Prop}{w:World}{la:yE}{lc:Nat}{ls:List yD}(h:LeadsAt B w la lc ls)(hS:∀ k,Go.Proofs.YtfjpemdejoejbaaGreat.blk la=some k->S k):StrsAt S w la ls:=fun hne=>by
 obtain⟨g,cap,hv,_,_⟩:=World.ownsRow.form h (by cases ls with | nil=>exact absurd rfl hne | cons a r=>simp);injection hv with h1 _ _;subst h1;refine⟨g,0,rfl,hS g rfl,fun i x hx=>?_⟩;have:=World.ownsRow.cells (g:=g) h rfl i (.string x) (by rw[List.getElem?_map,hx];rfl)
 rw[Qp6]at this;exact this
theorem KidsAt.trs{B:Nat}{X S:Nat->Prop}{w:World}{ka:yE}{kc:Nat}{ts:List Tr}(h:KidsAt B X w ka kc ts)(hS:∀ k,B<=k->k<w.heap.size->S k):ts≠[]->∃ b off,ka=some ⟨b,off,none⟩/\S b/\TrsAt S w b off ts:=fun hne=>by
 obtain⟨vs,h,hin⟩:=h;obtain⟨g,cap,hv,hb,hlt⟩:=World.ownsRow.form h (by cases ts with | nil=>exact absurd rfl hne | cons a r=>simp);injection hv with h1 _ _;subst h1
 have hc:∀ i u,(Qag vs)[i]? = some u->w.cell? ⟨g,i,none⟩=some u:=fun i u hu=>by
  have:=World.ownsRow.cells (g:=g) h rfl i u hu
  rw[Qp6,Nat.zero_add]at this;exact this
 refine⟨g,0,rfl,hS g hb hlt,TrsAt.of ts 0 fun i t ht=>?_⟩
 have hi:i<vs.length:=by
  rw[hin.1];exact(xP.1 ht).1
 obtain⟨v,hvs⟩:∃ v,vs[i]? = some v:=⟨vs[i],xF hi⟩;obtain⟨c0,c1,c2,c3⟩:=Qd1 vs i v hvs;simp only[Nat.zero_add];exact⟨v,hc _ _ c0,hc _ _ c1,hc _ _ c2,hc _ _ c3,TrAt.move (fun b hb=>hS b hb.1 hb.2.1) (fun _ _ _=>rfl) t v (hin.2 i t v ht hvs)⟩
def Qqd(b:Nat)(t:Tr)(q:PS)(w:World)(e:Ending)(w':World):Prop :=
 ∃ v:TV,e = .returned (.agg #[.int .i64 v.kind,.string v.text,.slice v.la v.ll v.lc,.slice v.ka v.kl v.kc])/\TrAt (fun k=>w.heap.size<=k/\k<w'.heap.size) w' t v/\PIn w' b q/\Off b w w'
def Qxl(T:Int->PS->Option (Tr × PS)):Prop:=∀ (b:Nat) (s:Int) (p:PS) (t:Tr) (q:PS) (w:World),T s p=some (t,q)->PIn w b p->Calls prog 85 #[.pointer (some ⟨b,0,none⟩),.int .i64 s] w (Qqd b t q w)
theorem Qcm:(prog.info? 25).map (fun i=>(i.zero,i.size,i.bytes))=some (some (.agg #[.int .i64 0,.string ByteArray.empty,.slice none 0 0,.slice none 0 0]),4,72):=by kernel_rfl
def Qxm(b:Nat)(r:List Tr × List yD × PS)(w:World)(e:Ending)(w':World):Prop :=
 ∃ ka kc ca cc,e = .returned (.tuple #[.slice ka r.1.length kc,.slice ca r.2.1.length cc])/\KidsAt (w.heap.size+1) (fun k=>blk ca=some k) w' ka kc r.1/\LeadsAt (w.heap.size+1) w' ca cc r.2.1/\PIn w' b r.2.2/\Off b w w'/\(r.1 = []->ka=none/\kc=0)/\(r.2.1 = []->ca=none/\cc=0)
def Zft(x:Part)(ks:List Tr)(p:PS):PS:=if (ks.length:Int)=x.most/\Qbw x.kids p≠0 then Qkd p 3 else p
theorem Qh9{T:Int->PS->Option (Tr × PS)}{x:Part}{n:Nat}{ks:List Tr}{cs:List yD}{p:PS}{r:List Tr × List yD × PS}(h:Qdj T x (n+1) true ks cs p=some r) :
  ∃ t q,T x.kids (Zft x ks p)=some (t,q)/\((x.commas=true/\is (Qad q).text [44] = true/\Qdj T x n true (ks ++ [t]) (cs ++ [(Qad q).lead]) (Qha q)=some r)\/(x.commas=true/\is (Qad q).text [44] = false/\Qdj T x n false (ks ++ [t]) cs q=some r)\/(x.commas=false/\Qdj T x n (Qbw x.kids q != 0) (ks ++ [t]) cs q=some r)):=by
 unfold Qdj at h
 change (match T x.kids (Zft x ks p) with | none=>none | some (t,q)=>_)=some r at h
 cases hT:T x.kids (Zft x ks p) with
 | none=>rw[hT]at h;cases h
 | some tq =>
  obtain⟨t,q⟩:=tq;rw[hT]at h;simp only[]at h;refine⟨t,q,rfl,?_⟩
  cases hc:x.commas
  ·rw[hc]at h;simp only[Bool.false_eq_true,if_false]at h;exact .inr (.inr ⟨rfl,h⟩)
  ·rw[hc]at h;simp only[if_true]at h
   cases hk:is (Qad q).text [44]
   ·rw[hk]at h;simp only[Bool.false_eq_true,if_false]at h;exact .inr (.inl ⟨rfl,rfl,h⟩)
   ·rw[hk]at h;simp only[if_true]at h;exact .inl ⟨rfl,rfl,h⟩
theorem Qfq{T:Int->PS->Option (Tr × PS)}{x:Part}{n:Nat}{ks:List Tr}{cs:List yD}{p:PS}{r:List Tr × List yD × PS}(h:Qdj T x n false ks cs p=some r):(ks,cs,p)=r:=by
 unfold Qdj at h
 simpa using h
def Zi7(x:Part):Obj:=.cells #[.string x.word,fnV x.nm,.int .i64 x.kids,.int .i64 x.least,.int .i64 x.most,.bool x.series,.bool x.commas] 132
def Qrj(T:Int->PS->Option (Tr × PS))(x:Part)(b N:Nat)(r:List Tr × List yD × PS)(w:World)(n:Nat)(u4 u5 u6:Value)(wr:World):Prop :=
 ∃ (more:Bool) (ks:List Tr) (cs:List yD) (p:PS) (ka:yE) (kc:Nat) (ca:yE) (cc:Nat),u4 = .slice ka ks.length kc/\u5 = .slice ca cs.length cc/\u6 = .bool more/\Qdj T x n more ks cs p=some r/\ks.length+n<=N/\cs.length+n<=N /\
  KidsAt (w.heap.size+1) (fun k=>blk ca=some k) wr ka kc ks/\LeadsAt (w.heap.size+1) wr ca cc cs/\PIn wr b p/\Off b w wr/\wr.heap[w.heap.size]? = some (Zi7 x)/\(ks = []->ka=none/\kc=0)/\(cs = []->ca=none/\cc=0)
theorem Zlm{B b:Nat}{X:Nat->Prop}{w w':World}{ka:yE}{kc:Nat}{ks:List Tr}(h:KidsAt B X w ka kc ks)(hw:Off b w w')(hb:b<B):KidsAt B X w' ka kc ks :=
 h.rest (Rest.off hw) (fun k _ e=>.inl (by have:k=b:=e;omega)) (fun _ _ h=>h) (fun k hk e=>by have:=(h.blk hk).1;have:k=b:=e;omega)
theorem Zi8{B b:Nat}{w w':World}{la:yE}{lc:Nat}{ls:List yD}(h:LeadsAt B w la lc ls)(hw:Off b w w')(hb:b<B):LeadsAt B w' la lc ls :=
 h.rest (Rest.off hw) (fun k hk e=>by have:=(Qgf h hk).1;have:k=b:=e;omega)
theorem Zam{x:Part}{ks:List Tr}{p:PS}(h:((ks.length:Int)==x.most)=false):Zft x ks p=p:=by
 unfold Zft;rw[xN];intro e;rw[e.1]at h;simp at h
theorem Qrk{x:Part}{ks:List Tr}{p:PS}(h:(Qbw x.kids p != 0)=false):Zft x ks p=p:=by
 unfold Zft;rw[xN];intro e;simp only[bne_eq_false_iff_eq]at h;exact e.2 h
theorem Qve{x:Part}{ks:List Tr}{p:PS}(h:((ks.length:Int)==x.most)=true)(h':(Qbw x.kids p != 0)=true):Zft x ks p=Qkd p 3:=by
 unfold Zft;rw[xO];exact⟨by simpa using h,by simpa using h'⟩
theorem Qgu(v:TV):∀ u∈v.cells,u.oneCell'=true:=by
 intro u hu;simp[TV.cells]at hu
 rcases hu with rfl | rfl | rfl | rfl <;> rfl
structure Grown (b B xb:Nat) (x:Part) (w0 w:World) (ka:yE) (kc:Nat) (ks:List Tr) (ca:yE) (cc:Nat) (cs:List yD) (p:PS):Prop where
 kids:KidsAt B (fun k=>blk ca=some k) w ka kc ks
 leads:LeadsAt B w ca cc cs
 state:PIn w b p
 off:Off b w0 w
 part:w.heap[xb]? = some (Zi7 x)
theorem Grown.keep{b B xb:Nat}{x:Part}{w0 w w':World}{ka:yE}{kc:Nat}{ks:List Tr}{ca:yE}{cc:Nat}{cs:List yD}{p q:PS}(h:Grown b B xb x w0 w ka kc ks ca cc cs p)(ho:Off b w w')(hp:PIn w' b q)(hb:b<xb)(hx:xb<B):Grown b B xb x w0 w' ka kc ks ca cc cs q :=
 ⟨Zlm h.kids ho (by omega),Zi8 h.leads ho (by omega),hp,h.off.trans ho,(ho.block xb (Qaa h.part) (by omega)).trans h.part⟩
theorem Grown.below{b B xb:Nat}{x:Part}{w0 w w':World}{ka:yE}{kc:Nat}{ks:List Tr}{ca:yE}{cc:Nat}{cs:List yD}{p:PS}(h:Grown b B xb x w0 w ka kc ks ca cc cs p)(ho:Below w.heap.size w w')(hb:b<xb)(hx:xb<B):Grown b B xb x w0 w' ka kc ks ca cc cs p :=
 h.keep (Off.of ho) (h.state.keep ho) hb hx
theorem Grown.kid{b B xb g cap:Nat}{x:Part}{w0 wc w w':World}{ka:yE}{kc:Nat}{ks:List Tr}{ca:yE}{cc:Nat}{cs:List yD}{p:PS}{t:Tr}{v:TV}{vs:List TV}{o:Obj}(h:Grown b B xb x w0 w ka kc ks ca cc cs p)(hb:b<xb)(hx:xb<B)(hx0:w0.heap.size<=xb)
  (hin:TrsIn (Ze9 B (fun k=>blk ca=some k) w ka) w ks vs) (hc:B<=wc.heap.size) (hkc:∀ k,blk ka=some k->k<wc.heap.size) (hlc:∀ k,blk ca=some k->k<wc.heap.size) (ht:TrAt (fun k=>wc.heap.size<=k/\k<w.heap.size) w t v)
  (hown:w'.ownsRow B 25 4 (.slice (some ⟨g,0,none⟩) (ks.length+1) cap) (ks.length+1) (Qag vs ++ v.cells)) (hg:(w.alloc o).grownBy w' (Value.slice ka ks.length kc).ownBlock) (hat:(Value.slice ka ks.length kc).ownBlock=some g\/g=w.heap.size+1) :
  Grown b B xb x w0 w' (some ⟨g,0,none⟩) cap (ks ++ [t]) ca cc cs p:=by
 have hmv:∀ k,Ze9 B (fun k=>blk ca=some k) w ka k->Ze9 B (fun k=>blk ca=some k) (w.alloc o) ka k:=fun k hk=>⟨hk.1,by rw[xI];have:=hk.2.1;omega,hk.2.2.1,hk.2.2.2⟩
 have hsame:∀ k,k<w.heap.size->(w.alloc o).heap[k]? = w.heap[k]?:=fun k hk=>Below.heap_alloc w o k hk
 have hka:∀ k,blk ka=some k->B<=k:=fun k hk=>(h.kids.blk hk).1
 have hR:Rest (fun k=>blk ka=some k) w w':=(Rest.alloc o).trans (Rest.grown hg (fun k hk=>by rwa[Qjo]at hk));refine⟨?_,h.leads.rest hR (fun k hk e=>Qis h.kids h.leads e hk),h.state.upto (fun k hk=>hR.block k (by have:=h.state.lt;omega) (fun e=>by have:=hka k e;omega)),⟨hR.os.trans h.off.os,hR.tape.trans h.off.tape,hR.output.trans h.off.output,xQ h.off.size hR.size,fun k hk hkb=>(hR.block k (xE hk h.off.size) (fun e=>by have:=hka k e;omega)).trans (h.off.block k hk hkb)⟩,(hR.block xb (Qaa h.part) (fun e=>by have:=hka xb e;omega)).trans h.part⟩;refine KidsAt.grow (us:=[t]) (xs:=[v]) (hin.move hmv (fun k _ hlt=>hsame k hlt)) (TrsIn.one (TrAt.move (fun k hk=>⟨by omega,by rw[xI];omega,fun e=>by have:=hkc k e;omega,fun e=>by have:=hlc k e;omega⟩) (fun k _ hlt=>hsame k hlt) t v ht)) ?_ hg (hat.elim .inl (fun e=>.inr (by rw[xI];omega)));have e1:Qag [v] = v.cells:=by unfold Qag;simp
 rw[e1];exact hown
theorem Grown.lead{b B xb g cap:Nat}{x:Part}{w0 w w':World}{ka:yE}{kc:Nat}{ks:List Tr}{ca:yE}{cc:Nat}{cs:List yD}{p:PS}{y:yD}{o:Obj}(h:Grown b B xb x w0 w ka kc ks ca cc cs p)(hb:b<xb)(hx:xb<B)(hx0:w0.heap.size<=xb)(hB:B<=w.heap.size)
  (hown:w'.ownsRow B 9 1 (.slice (some ⟨g,0,none⟩) (cs.length+1) cap) (cs.length+1) (cs.map Value.string ++ [.string y])) (hg:(w.alloc o).grownBy w' (Value.slice ca cs.length cc).ownBlock) (hat:(Value.slice ca cs.length cc).ownBlock=some g\/g=w.heap.size+1) :
  Grown b B xb x w0 w' ka kc ks (some ⟨g,0,none⟩) cap (cs ++ [y]) p:=by
 have hca:∀ k,blk ca=some k->B<=k:=fun k hk=>(Qgf h.leads hk).1
 have hR:Rest (fun k=>blk ca=some k) w w':=(Rest.alloc o).trans (Rest.grown hg (fun k hk=>by rwa[Qjo]at hk))
 refine⟨h.kids.rest hR (fun k _ e=>.inr e) (fun k hk e=>?_) (fun k hk e=>Qis h.kids h.leads hk e),?_,h.state.upto (fun k hk=>hR.block k (by have:=h.state.lt;omega) (fun e=>by have:=hca k e;omega)),⟨hR.os.trans h.off.os,hR.tape.trans h.off.tape,hR.output.trans h.off.output,xQ h.off.size hR.size,fun k hk hkb=>(hR.block k (xE hk h.off.size) (fun e=>by have:=hca k e;omega)).trans (h.off.block k hk hkb)⟩,(hR.block xb (Qaa h.part) (fun e=>by have:=hca xb e;omega)).trans h.part⟩
 ·have:g=k:=by simpa [blk] using e
  subst this
  rcases hat with h' | h'
  ·rwa[Qjo]at h'
  ·omega
 ·unfold LeadsAt;rw[xB,List.map_append];exact hown
theorem Qxn{T:Int->PS->Option (Tr × PS)}(hT:Qxl T){b N:Nat}{p:PS}(x:Part)(r:List Tr × List yD × PS)(w:World)(h:PIn w b p)(hr:Qdj T x N (decide (0<x.least) || Qbw x.kids p != 0) [] [] p=some r)(hN:N<=65536) :
  Calls prog 84 #[.pointer (some ⟨b,0,none⟩),.agg #[.string x.word,fnV x.nm,.int .i64 x.kids,.int .i64 x.least,.int .i64 x.most,.bool x.series,.bool x.commas]] w (Qxm b r w):=by
 have HI:=hQ h;have HR:=hQ hr;have HN:=hQ hN;have HTC:=hQ hT;clear h hr hN hT;have HW0:=hQ ((xC w.heap.size w).alloc (xA _) (Zi7 x));have HG0:=hQ (xH w (.cells #[.string x.word,fnV x.nm,.int .i64 x.kids,.int .i64 x.least,.int .i64 x.most,.bool x.series,.bool x.commas] 132))
 cases hl:decide (0<x.least)
 ·go_enter func84,ntmps84;go_wp2_with (go_at_call 130;refine(Qc5 x.kids _ (HI.out.keep HW0.out)).mono ?_;rintro e w1⟨rfl,hb⟩;have HB:=hQ hb;clear hb)
  have HB1:=hQ (yC HW0.out HB.out);have HB0:=hQ ((HB.out.block w.heap.size (by simp)).trans HG0.out)
  go_loopg [4,5,6] N (fun g u4 u5 u6 wr=>Qrj T x b N r w g u4 u5 u6 wr)
  case atStart=>exact⟨Qbw x.kids p != 0,[],[],p,none,0,none,0,rfl,rfl,rfl,by have:=HR.out;rw[hl]at this;exact this,by simp,by simp,KidsAt.nil _ _ _,LeadsAt.nil _ _,HI.out.keep HB1.out,Off.of HB1.out,HB0.out,fun _=>⟨rfl,rfl⟩,fun _=>⟨rfl,rfl⟩⟩
  case round =>
   obtain⟨more,ks,cs,p',ka,kc,ca,cc,rfl,rfl,rfl,hs,hkn,hcn,hkid,hlead,hp,ho,hx,hk0,hc0⟩:=hrel;have HK:=hQ hkid;have HLd:=hQ hlead;have HP:=hQ hp;have HO:=hQ ho;have HX:=hQ hx;have HKN:=hQ hkn;have HCN:=hQ hcn;have HK0:=hQ hk0;have HC0:=hQ hc0;clear hkid hlead hp ho hkn hcn hk0 hc0 HB0 HB1
   cases more
   ·have HE:=hQ (Qfq hs);clear hs hx;go_wp2;refine bodyPost_ret (v:=.tuple #[.slice ka ks.length kc,.slice ca cs.length cc]) (by simp[results,results84,go_sem]) rfl ?_;rw[<-HE.out];exact⟨ka,kc,ca,cc,rfl,HK.out,HLd.out,HP.out,HO.out,HK0.out,HC0.out⟩
   ·obtain⟨n,hn⟩:∃ n,gk=n+1:=by
     cases gk with
     | zero=>unfold Qdj at hs;cases hs
     | succ n=>exact⟨n,rfl⟩
    rw[hn]at hs;obtain⟨t,q,ht,hw⟩:=Qh9 hs;have HTE:=hQ ht;have HWY:=hQ hw;have HNG:=hQ hn;clear hs ht hw hn;obtain⟨x0,x1,x2,x3,x4,x5,x6⟩:=Qb1 hx;clear hx;have GR:=hQ (show Grown b (w.heap.size+1) w.heap.size x w wr ka kc ks ca cc cs p' from⟨HK.out,HLd.out,HP.out,HO.out,HX.out⟩);have HBX:=hQ HI.out.lt;clear HK HLd HP HO HX
    cases hlm:((ks.length:Int)==x.most)
    ·have HLM:=hQ (Zam (p:=p') hlm);rw[HLM.out]at HTE;have GC:=GR;clear GR HLM;go_wp2_with fail;go_at_call 85;refine(HTC.out b x.kids _ t q _ HTE.out GC.out.state).mono ?_;rintro e w4⟨v,rfl,htr,hp4,ho4⟩;have HTR:=hQ htr;have HSZ:=hQ GC.out.off.size;have HKC:=hQ (show ∀ k,blk ka=some k->k<wr.heap.size from fun k hk=>(GC.out.kids.blk hk).2.1);have HLC:=hQ (show ∀ k,blk ca=some k->k<wr.heap.size from fun k hk=>(Qgf GC.out.leads hk).2.1);have HPC:=hQ (Qaa GC.out.part);have G4:=hQ (GC.out.keep ho4 hp4 HBX.out (xW _));clear htr hp4 ho4 GC;obtain⟨vs,hown,hin⟩:=G4.out.kids;have HIN:=hQ hin;have HOW:=hQ hown;clear hin hown;obtain⟨i0,hi,hz0,hz1,hz2⟩:=info_parts Qcm;have h4s:=hQ G4.out.off.size;go_wp2_with (at_builtin;refine wpList_append_lies _ (by rfl) _ _ _ (by rfl) (w.heap.size+1) 25 i0 _ 4 72 underlying22 hi hz0 hz1 hz2 rfl (by decide) (.slice ka ks.length kc) ks.length (Qag vs) (by rfl) (HOW.out.alloc _) ⟨w4.heap.size,0,none⟩ 1 1 v.cells (by rfl) (by rfl) (xM (cs:=v.cells.toArray) (t:=25) (fr:=(0,0)) (xH w4 _)) (Qgu v) (by decide) ?b1 ?b2 ?b3 (w4.heap.size+1) (by simp) ?_)
     case b1=>unfold maxLen;have:=HKN.out;have:=HN.out;omega
     case b2=>have:=HKN.out;have:=HN.out;omega
     case b3=>rw[xI];have:=Qaa G4.out.part;omega
     intro g cap w5 hown5 hgrow hat5 hlt5;have G5:=hQ (G4.out.kid HBX.out (xW _) (xA _) HIN.out HPC.out HKC.out HLC.out HTR.out hown5 hgrow hat5);clear hown5 hgrow hat5 hlt5 hi hz0 hz1 hz2 x0 x1 x2 x3 x4 x5 x6;obtain⟨x0,x1,x2,x3,x4,x5,x6⟩:=Qb1 G5.out.part
     rcases HWY.out with⟨hc,hk,hs⟩|⟨hc,hk,hs⟩|⟨hc,hs⟩
     ·have hk':((Qad q).text.toList == [44])=true:=by rw[Qbj];exact hk
      have HS:=hQ hs;clear hs hk;rw[hc]at x6;clear hc;have hft:=fun(w:World)=>Qe2 (Qad q).kind (Qad q).lead (Qad q).text w
      have hfl:=fun(w:World)=>Qh8 (Qad q).kind (Qad q).lead (Qad q).text w
      go_wp2_with fail;go_at_call 132;refine(Qbe _ G5.out.state).mono ?_;rintro e w6⟨rfl,hb6⟩;have G6:=hQ (G5.out.below hb6 HBX.out (xW _));clear hb6 G5;go_wp2_with fail;go_at_call 133;refine(Qg3 _ G6.out.state).mono ?_;rintro e w7⟨rfl,hp7,ho7⟩;have G7:=hQ (G6.out.keep ho7 hp7 HBX.out (xW _));clear hp7 ho7 G6;obtain⟨j0,hi,hz0,hz1,hz2⟩:=info_parts Qdl;go_wp2_with (at_builtin;refine wpList_append_lies _ (by rfl) _ _ _ (by rfl) (w.heap.size+1) 9 j0 _ 1 16 underlying23 hi hz0 hz1 hz2 rfl (by decide) (.slice ca cs.length cc) cs.length (cs.map Value.string) (by rfl) (G7.out.leads.alloc _) ⟨w7.heap.size,0,none⟩ 1 1 [.string (Qad q).lead] (by rfl) (by rfl) (xM (cs:=#[.string (Qad q).lead]) (t:=9) (fr:=(0,0)) (xH w7 _)) (fun u hu=>by simp at hu;subst hu;rfl) (by decide) ?d1 ?d2 ?d3 (w7.heap.size+1) (by simp) ?_)
      case d1=>unfold maxLen;have:=HCN.out;have:=HN.out;omega
      case d2=>have:=HCN.out;have:=HN.out;omega
      case d3=>rw[xI];have:=Qaa G7.out.part;omega
      intro g' cap' w8 hown8 hgrow8 hat8 hlt8;have G8:=hQ (G7.out.lead HBX.out (xW _) (xA _) (Nat.succ_le_of_lt (Qaa G7.out.part)) hown8 hgrow8 hat8);clear hown8 hgrow8 hat8 hlt8 hi hz0 hz1 hz2 hft hfl x0 x1 x2 x3 x4 x5 x6;go_wp2
      go_roundg n
      case measure=>have:=HNG.out;omega
      case rel=>exact⟨true,ks ++ [t],cs ++ [(Qad q).lead],Qha q,_,_,_,_,by simp,by simp,rfl,HS.out,by have:=HKN.out;have:=HNG.out;simp;omega,by have:=HCN.out;have:=HNG.out;simp;omega,G8.out.kids,G8.out.leads,G8.out.state,G8.out.off,G8.out.part,by simp,by simp⟩
     ·have hk':((Qad q).text.toList == [44])=false:=by rw[Qbj];exact hk
      have HS:=hQ hs;clear hs hk;rw[hc]at x6;clear hc;have hft:=fun(w:World)=>Qe2 (Qad q).kind (Qad q).lead (Qad q).text w
      go_wp2_with fail;go_at_call 132;refine(Qbe _ G5.out.state).mono ?_;rintro e w6⟨rfl,hb6⟩;have G6:=hQ (G5.out.below hb6 HBX.out (xW _));clear hb6 G5 x0 x1 x2 x3 x4 x5 x6;go_wp2
      go_roundg n
      case measure=>have:=HNG.out;omega
      case rel=>exact⟨false,ks ++ [t],cs,q,_,_,_,_,by simp,rfl,rfl,HS.out,by have:=HKN.out;have:=HNG.out;simp;omega,by have:=HCN.out;have:=HNG.out;omega,G6.out.kids,G6.out.leads,G6.out.state,G6.out.off,G6.out.part,by simp,HC0.out⟩
     ·have HS:=hQ hs;clear hs;rw[hc]at x6;clear hc;go_wp2_with fail;go_at_call 130;refine(Qc5 x.kids _ G5.out.state).mono ?_;rintro e w6⟨rfl,hb6⟩;have G6:=hQ (G5.out.below hb6 HBX.out (xW _));clear hb6 G5 x0 x1 x2 x3 x4 x5 x6;go_wp2
      go_roundg n
      case measure=>have:=HNG.out;omega
      case rel=>exact⟨Qbw x.kids q != 0,ks ++ [t],cs,q,_,_,_,_,by simp,rfl,rfl,HS.out,by have:=HKN.out;have:=HNG.out;simp;omega,by have:=HCN.out;have:=HNG.out;omega,G6.out.kids,G6.out.leads,G6.out.state,G6.out.off,G6.out.part,by simp,HC0.out⟩
    ·cases hbg:(Qbw x.kids p' != 0)
     ·have HLM:=hQ (Qrk (ks:=ks) hbg);rw[HLM.out]at HTE;go_wp2_with fail;go_at_call 130;refine(Qc5 x.kids _ GR.out.state).mono ?_;rintro e w2⟨rfl,hb2⟩;have GC:=hQ (GR.out.below hb2 HBX.out (xW _));clear GR HLM hb2 x0 x1 x2 x3 x4 x5 x6;obtain⟨x0,x1,x2,x3,x4,x5,x6⟩:=Qb1 GC.out.part;go_wp2_with fail;go_at_call 85;refine(HTC.out b x.kids _ t q _ HTE.out GC.out.state).mono ?_;rintro e w4⟨v,rfl,htr,hp4,ho4⟩;have HTR:=hQ htr;have HSZ:=hQ GC.out.off.size;have HKC:=hQ (show ∀ k,blk ka=some k->k<w2.heap.size from fun k hk=>(GC.out.kids.blk hk).2.1);have HLC:=hQ (show ∀ k,blk ca=some k->k<w2.heap.size from fun k hk=>(Qgf GC.out.leads hk).2.1);have HPC:=hQ (Qaa GC.out.part);have G4:=hQ (GC.out.keep ho4 hp4 HBX.out (xW _));clear htr hp4 ho4 GC;obtain⟨vs,hown,hin⟩:=G4.out.kids;have HIN:=hQ hin;have HOW:=hQ hown;clear hin hown;obtain⟨i0,hi,hz0,hz1,hz2⟩:=info_parts Qcm;have h4s:=hQ G4.out.off.size;go_wp2_with (at_builtin;refine wpList_append_lies _ (by rfl) _ _ _ (by rfl) (w.heap.size+1) 25 i0 _ 4 72 underlying22 hi hz0 hz1 hz2 rfl (by decide) (.slice ka ks.length kc) ks.length (Qag vs) (by rfl) (HOW.out.alloc _) ⟨w4.heap.size,0,none⟩ 1 1 v.cells (by rfl) (by rfl) (xM (cs:=v.cells.toArray) (t:=25) (fr:=(0,0)) (xH w4 _)) (Qgu v) (by decide) ?b1 ?b2 ?b3 (w4.heap.size+1) (by simp) ?_)
      case b1=>unfold maxLen;have:=HKN.out;have:=HN.out;omega
      case b2=>have:=HKN.out;have:=HN.out;omega
      case b3=>rw[xI];have:=Qaa G4.out.part;omega
      intro g cap w5 hown5 hgrow hat5 hlt5;have G5:=hQ (G4.out.kid HBX.out (xW _) (xA _) HIN.out HPC.out HKC.out HLC.out HTR.out hown5 hgrow hat5);clear hown5 hgrow hat5 hlt5 hi hz0 hz1 hz2 x0 x1 x2 x3 x4 x5 x6;obtain⟨x0,x1,x2,x3,x4,x5,x6⟩:=Qb1 G5.out.part
      rcases HWY.out with⟨hc,hk,hs⟩|⟨hc,hk,hs⟩|⟨hc,hs⟩
      ·have hk':((Qad q).text.toList == [44])=true:=by rw[Qbj];exact hk
       have HS:=hQ hs;clear hs hk;rw[hc]at x6;clear hc;have hft:=fun(w:World)=>Qe2 (Qad q).kind (Qad q).lead (Qad q).text w
       have hfl:=fun(w:World)=>Qh8 (Qad q).kind (Qad q).lead (Qad q).text w
       go_wp2_with fail;go_at_call 132;refine(Qbe _ G5.out.state).mono ?_;rintro e w6⟨rfl,hb6⟩;have G6:=hQ (G5.out.below hb6 HBX.out (xW _));clear hb6 G5;go_wp2_with fail;go_at_call 133;refine(Qg3 _ G6.out.state).mono ?_;rintro e w7⟨rfl,hp7,ho7⟩;have G7:=hQ (G6.out.keep ho7 hp7 HBX.out (xW _));clear hp7 ho7 G6;obtain⟨j0,hi,hz0,hz1,hz2⟩:=info_parts Qdl;go_wp2_with (at_builtin;refine wpList_append_lies _ (by rfl) _ _ _ (by rfl) (w.heap.size+1) 9 j0 _ 1 16 underlying23 hi hz0 hz1 hz2 rfl (by decide) (.slice ca cs.length cc) cs.length (cs.map Value.string) (by rfl) (G7.out.leads.alloc _) ⟨w7.heap.size,0,none⟩ 1 1 [.string (Qad q).lead] (by rfl) (by rfl) (xM (cs:=#[.string (Qad q).lead]) (t:=9) (fr:=(0,0)) (xH w7 _)) (fun u hu=>by simp at hu;subst hu;rfl) (by decide) ?d1 ?d2 ?d3 (w7.heap.size+1) (by simp) ?_)
       case d1=>unfold maxLen;have:=HCN.out;have:=HN.out;omega
       case d2=>have:=HCN.out;have:=HN.out;omega
       case d3=>rw[xI];have:=Qaa G7.out.part;omega
       intro g' cap' w8 hown8 hgrow8 hat8 hlt8;have G8:=hQ (G7.out.lead HBX.out (xW _) (xA _) (Nat.succ_le_of_lt (Qaa G7.out.part)) hown8 hgrow8 hat8);clear hown8 hgrow8 hat8 hlt8 hi hz0 hz1 hz2 hft hfl x0 x1 x2 x3 x4 x5 x6;go_wp2
       go_roundg n
       case measure=>have:=HNG.out;omega
       case rel=>exact⟨true,ks ++ [t],cs ++ [(Qad q).lead],Qha q,_,_,_,_,by simp,by simp,rfl,HS.out,by have:=HKN.out;have:=HNG.out;simp;omega,by have:=HCN.out;have:=HNG.out;simp;omega,G8.out.kids,G8.out.leads,G8.out.state,G8.out.off,G8.out.part,by simp,by simp⟩
      ·have hk':((Qad q).text.toList == [44])=false:=by rw[Qbj];exact hk
       have HS:=hQ hs;clear hs hk;rw[hc]at x6;clear hc;have hft:=fun(w:World)=>Qe2 (Qad q).kind (Qad q).lead (Qad q).text w
       go_wp2_with fail;go_at_call 132;refine(Qbe _ G5.out.state).mono ?_;rintro e w6⟨rfl,hb6⟩;have G6:=hQ (G5.out.below hb6 HBX.out (xW _));clear hb6 G5 x0 x1 x2 x3 x4 x5 x6;go_wp2
       go_roundg n
       case measure=>have:=HNG.out;omega
       case rel=>exact⟨false,ks ++ [t],cs,q,_,_,_,_,by simp,rfl,rfl,HS.out,by have:=HKN.out;have:=HNG.out;simp;omega,by have:=HCN.out;have:=HNG.out;omega,G6.out.kids,G6.out.leads,G6.out.state,G6.out.off,G6.out.part,by simp,HC0.out⟩
      ·have HS:=hQ hs;clear hs;rw[hc]at x6;clear hc;go_wp2_with fail;go_at_call 130;refine(Qc5 x.kids _ G5.out.state).mono ?_;rintro e w6⟨rfl,hb6⟩;have G6:=hQ (G5.out.below hb6 HBX.out (xW _));clear hb6 G5 x0 x1 x2 x3 x4 x5 x6;go_wp2
       go_roundg n
       case measure=>have:=HNG.out;omega
       case rel=>exact⟨Qbw x.kids q != 0,ks ++ [t],cs,q,_,_,_,_,by simp,rfl,rfl,HS.out,by have:=HKN.out;have:=HNG.out;simp;omega,by have:=HCN.out;have:=HNG.out;omega,G6.out.kids,G6.out.leads,G6.out.state,G6.out.off,G6.out.part,by simp,HC0.out⟩
     ·have HLM:=hQ (Qve hlm hbg);rw[HLM.out]at HTE;go_wp2_with fail;go_at_call 130;refine(Qc5 x.kids _ GR.out.state).mono ?_;rintro e w2⟨rfl,hb2⟩;have GB:=hQ (GR.out.below hb2 HBX.out (xW _));clear GR HLM hb2 x0 x1 x2 x3 x4 x5 x6;go_wp2_with fail;go_at_call 131;refine(Qmr (x:=3) _ GB.out.state).mono ?_;rintro e w3⟨rfl,hp3,ho3⟩;have GC:=hQ (GB.out.keep ho3 hp3 HBX.out (xW _));clear GB hp3 ho3;obtain⟨x0,x1,x2,x3,x4,x5,x6⟩:=Qb1 GC.out.part;go_wp2_with fail;go_at_call 85;refine(HTC.out b x.kids _ t q _ HTE.out GC.out.state).mono ?_;rintro e w4⟨v,rfl,htr,hp4,ho4⟩;have HTR:=hQ htr;have HSZ:=hQ GC.out.off.size;have HKC:=hQ (show ∀ k,blk ka=some k->k<w3.heap.size from fun k hk=>(GC.out.kids.blk hk).2.1);have HLC:=hQ (show ∀ k,blk ca=some k->k<w3.heap.size from fun k hk=>(Qgf GC.out.leads hk).2.1);have HPC:=hQ (Qaa GC.out.part);have G4:=hQ (GC.out.keep ho4 hp4 HBX.out (xW _));clear htr hp4 ho4 GC;obtain⟨vs,hown,hin⟩:=G4.out.kids;have HIN:=hQ hin;have HOW:=hQ hown;clear hin hown;obtain⟨i0,hi,hz0,hz1,hz2⟩:=info_parts Qcm;have h4s:=hQ G4.out.off.size;go_wp2_with (at_builtin;refine wpList_append_lies _ (by rfl) _ _ _ (by rfl) (w.heap.size+1) 25 i0 _ 4 72 underlying22 hi hz0 hz1 hz2 rfl (by decide) (.slice ka ks.length kc) ks.length (Qag vs) (by rfl) (HOW.out.alloc _) ⟨w4.heap.size,0,none⟩ 1 1 v.cells (by rfl) (by rfl) (xM (cs:=v.cells.toArray) (t:=25) (fr:=(0,0)) (xH w4 _)) (Qgu v) (by decide) ?b1 ?b2 ?b3 (w4.heap.size+1) (by simp) ?_)
      case b1=>unfold maxLen;have:=HKN.out;have:=HN.out;omega
      case b2=>have:=HKN.out;have:=HN.out;omega
      case b3=>rw[xI];have:=Qaa G4.out.part;omega
      intro g cap w5 hown5 hgrow hat5 hlt5;have G5:=hQ (G4.out.kid HBX.out (xW _) (xA _) HIN.out HPC.out HKC.out HLC.out HTR.out hown5 hgrow hat5);clear hown5 hgrow hat5 hlt5 hi hz0 hz1 hz2 x0 x1 x2 x3 x4 x5 x6;obtain⟨x0,x1,x2,x3,x4,x5,x6⟩:=Qb1 G5.out.part
      rcases HWY.out with⟨hc,hk,hs⟩|⟨hc,hk,hs⟩|⟨hc,hs⟩
      ·have hk':((Qad q).text.toList == [44])=true:=by rw[Qbj];exact hk
       have HS:=hQ hs;clear hs hk;rw[hc]at x6;clear hc;have hft:=fun(w:World)=>Qe2 (Qad q).kind (Qad q).lead (Qad q).text w
       have hfl:=fun(w:World)=>Qh8 (Qad q).kind (Qad q).lead (Qad q).text w
       go_wp2_with fail;go_at_call 132;refine(Qbe _ G5.out.state).mono ?_;rintro e w6⟨rfl,hb6⟩;have G6:=hQ (G5.out.below hb6 HBX.out (xW _));clear hb6 G5;go_wp2_with fail;go_at_call 133;refine(Qg3 _ G6.out.state).mono ?_;rintro e w7⟨rfl,hp7,ho7⟩;have G7:=hQ (G6.out.keep ho7 hp7 HBX.out (xW _));clear hp7 ho7 G6;obtain⟨j0,hi,hz0,hz1,hz2⟩:=info_parts Qdl;go_wp2_with (at_builtin;refine wpList_append_lies _ (by rfl) _ _ _ (by rfl) (w.heap.size+1) 9 j0 _ 1 16 underlying23 hi hz0 hz1 hz2 rfl (by decide) (.slice ca cs.length cc) cs.length (cs.map Value.string) (by rfl) (G7.out.leads.alloc _) ⟨w7.heap.size,0,none⟩ 1 1 [.string (Qad q).lead] (by rfl) (by rfl) (xM (cs:=#[.string (Qad q).lead]) (t:=9) (fr:=(0,0)) (xH w7 _)) (fun u hu=>by simp at hu;subst hu;rfl) (by decide) ?d1 ?d2 ?d3 (w7.heap.size+1) (by simp) ?_)
       case d1=>unfold maxLen;have:=HCN.out;have:=HN.out;omega
       case d2=>have:=HCN.out;have:=HN.out;omega
       case d3=>rw[xI];have:=Qaa G7.out.part;omega
       intro g' cap' w8 hown8 hgrow8 hat8 hlt8;have G8:=hQ (G7.out.lead HBX.out (xW _) (xA _) (Nat.succ_le_of_lt (Qaa G7.out.part)) hown8 hgrow8 hat8);clear hown8 hgrow8 hat8 hlt8 hi hz0 hz1 hz2 hft hfl x0 x1 x2 x3 x4 x5 x6;go_wp2
       go_roundg n
       case measure=>have:=HNG.out;omega
       case rel=>exact⟨true,ks ++ [t],cs ++ [(Qad q).lead],Qha q,_,_,_,_,by simp,by simp,rfl,HS.out,by have:=HKN.out;have:=HNG.out;simp;omega,by have:=HCN.out;have:=HNG.out;simp;omega,G8.out.kids,G8.out.leads,G8.out.state,G8.out.off,G8.out.part,by simp,by simp⟩
      ·have hk':((Qad q).text.toList == [44])=false:=by rw[Qbj];exact hk
       have HS:=hQ hs;clear hs hk;rw[hc]at x6;clear hc;have hft:=fun(w:World)=>Qe2 (Qad q).kind (Qad q).lead (Qad q).text w
       go_wp2_with fail;go_at_call 132;refine(Qbe _ G5.out.state).mono ?_;rintro e w6⟨rfl,hb6⟩;have G6:=hQ (G5.out.below hb6 HBX.out (xW _));clear hb6 G5 x0 x1 x2 x3 x4 x5 x6;go_wp2
       go_roundg n
       case measure=>have:=HNG.out;omega
       case rel=>exact⟨false,ks ++ [t],cs,q,_,_,_,_,by simp,rfl,rfl,HS.out,by have:=HKN.out;have:=HNG.out;simp;omega,by have:=HCN.out;have:=HNG.out;omega,G6.out.kids,G6.out.leads,G6.out.state,G6.out.off,G6.out.part,by simp,HC0.out⟩
      ·have HS:=hQ hs;clear hs;rw[hc]at x6;clear hc;go_wp2_with fail;go_at_call 130;refine(Qc5 x.kids _ G5.out.state).mono ?_;rintro e w6⟨rfl,hb6⟩;have G6:=hQ (G5.out.below hb6 HBX.out (xW _));clear hb6 G5 x0 x1 x2 x3 x4 x5 x6;go_wp2
       go_roundg n
       case measure=>have:=HNG.out;omega
       case rel=>exact⟨Qbw x.kids q != 0,ks ++ [t],cs,q,_,_,_,_,by simp,rfl,rfl,HS.out,by have:=HKN.out;have:=HNG.out;simp;omega,by have:=HCN.out;have:=HNG.out;omega,G6.out.kids,G6.out.leads,G6.out.state,G6.out.off,G6.out.part,by simp,HC0.out⟩
 ·go_enter func84,ntmps84;go_wp2_with fail;have HB1:=HW0;have HB0:=HG0
  go_loopg [4,5,6] N (fun g u4 u5 u6 wr=>Qrj T x b N r w g u4 u5 u6 wr)
  case atStart=>exact⟨true,[],[],p,none,0,none,0,rfl,rfl,rfl,by have:=HR.out;rw[hl]at this;exact this,by simp,by simp,KidsAt.nil _ _ _,LeadsAt.nil _ _,HI.out.keep HB1.out,Off.of HB1.out,HB0.out,fun _=>⟨rfl,rfl⟩,fun _=>⟨rfl,rfl⟩⟩
  case round =>
   obtain⟨more,ks,cs,p',ka,kc,ca,cc,rfl,rfl,rfl,hs,hkn,hcn,hkid,hlead,hp,ho,hx,hk0,hc0⟩:=hrel;have HK:=hQ hkid;have HLd:=hQ hlead;have HP:=hQ hp;have HO:=hQ ho;have HX:=hQ hx;have HKN:=hQ hkn;have HCN:=hQ hcn;have HK0:=hQ hk0;have HC0:=hQ hc0;clear hkid hlead hp ho hkn hcn hk0 hc0 HB0 HB1
   cases more
   ·have HE:=hQ (Qfq hs);clear hs hx;go_wp2;refine bodyPost_ret (v:=.tuple #[.slice ka ks.length kc,.slice ca cs.length cc]) (by simp[results,results84,go_sem]) rfl ?_;rw[<-HE.out];exact⟨ka,kc,ca,cc,rfl,HK.out,HLd.out,HP.out,HO.out,HK0.out,HC0.out⟩
   ·obtain⟨n,hn⟩:∃ n,gk=n+1:=by
     cases gk with
     | zero=>unfold Qdj at hs;cases hs
     | succ n=>exact⟨n,rfl⟩
    rw[hn]at hs;obtain⟨t,q,ht,hw⟩:=Qh9 hs;have HTE:=hQ ht;have HWY:=hQ hw;have HNG:=hQ hn;clear hs ht hw hn;obtain⟨x0,x1,x2,x3,x4,x5,x6⟩:=Qb1 hx;clear hx;have GR:=hQ (show Grown b (w.heap.size+1) w.heap.size x w wr ka kc ks ca cc cs p' from⟨HK.out,HLd.out,HP.out,HO.out,HX.out⟩);have HBX:=hQ HI.out.lt;clear HK HLd HP HO HX
    cases hlm:((ks.length:Int)==x.most)
    ·have HLM:=hQ (Zam (p:=p') hlm);rw[HLM.out]at HTE;have GC:=GR;clear GR HLM;go_wp2_with fail;go_at_call 85;refine(HTC.out b x.kids _ t q _ HTE.out GC.out.state).mono ?_;rintro e w4⟨v,rfl,htr,hp4,ho4⟩;have HTR:=hQ htr;have HSZ:=hQ GC.out.off.size;have HKC:=hQ (show ∀ k,blk ka=some k->k<wr.heap.size from fun k hk=>(GC.out.kids.blk hk).2.1);have HLC:=hQ (show ∀ k,blk ca=some k->k<wr.heap.size from fun k hk=>(Qgf GC.out.leads hk).2.1);have HPC:=hQ (Qaa GC.out.part);have G4:=hQ (GC.out.keep ho4 hp4 HBX.out (xW _));clear htr hp4 ho4 GC;obtain⟨vs,hown,hin⟩:=G4.out.kids;have HIN:=hQ hin;have HOW:=hQ hown;clear hin hown;obtain⟨i0,hi,hz0,hz1,hz2⟩:=info_parts Qcm;have h4s:=hQ G4.out.off.size;go_wp2_with (at_builtin;refine wpList_append_lies _ (by rfl) _ _ _ (by rfl) (w.heap.size+1) 25 i0 _ 4 72 underlying22 hi hz0 hz1 hz2 rfl (by decide) (.slice ka ks.length kc) ks.length (Qag vs) (by rfl) (HOW.out.alloc _) ⟨w4.heap.size,0,none⟩ 1 1 v.cells (by rfl) (by rfl) (xM (cs:=v.cells.toArray) (t:=25) (fr:=(0,0)) (xH w4 _)) (Qgu v) (by decide) ?b1 ?b2 ?b3 (w4.heap.size+1) (by simp) ?_)
     case b1=>unfold maxLen;have:=HKN.out;have:=HN.out;omega
     case b2=>have:=HKN.out;have:=HN.out;omega
     case b3=>rw[xI];have:=Qaa G4.out.part;omega
     intro g cap w5 hown5 hgrow hat5 hlt5;have G5:=hQ (G4.out.kid HBX.out (xW _) (xA _) HIN.out HPC.out HKC.out HLC.out HTR.out hown5 hgrow hat5);clear hown5 hgrow hat5 hlt5 hi hz0 hz1 hz2 x0 x1 x2 x3 x4 x5 x6;obtain⟨x0,x1,x2,x3,x4,x5,x6⟩:=Qb1 G5.out.part
     rcases HWY.out with⟨hc,hk,hs⟩|⟨hc,hk,hs⟩|⟨hc,hs⟩
     ·have hk':((Qad q).text.toList == [44])=true:=by rw[Qbj];exact hk
      have HS:=hQ hs;clear hs hk;rw[hc]at x6;clear hc;have hft:=fun(w:World)=>Qe2 (Qad q).kind (Qad q).lead (Qad q).text w
      have hfl:=fun(w:World)=>Qh8 (Qad q).kind (Qad q).lead (Qad q).text w
      go_wp2_with fail;go_at_call 132;refine(Qbe _ G5.out.state).mono ?_;rintro e w6⟨rfl,hb6⟩;have G6:=hQ (G5.out.below hb6 HBX.out (xW _));clear hb6 G5;go_wp2_with fail;go_at_call 133;refine(Qg3 _ G6.out.state).mono ?_;rintro e w7⟨rfl,hp7,ho7⟩;have G7:=hQ (G6.out.keep ho7 hp7 HBX.out (xW _));clear hp7 ho7 G6;obtain⟨j0,hi,hz0,hz1,hz2⟩:=info_parts Qdl;go_wp2_with (at_builtin;refine wpList_append_lies _ (by rfl) _ _ _ (by rfl) (w.heap.size+1) 9 j0 _ 1 16 underlying23 hi hz0 hz1 hz2 rfl (by decide) (.slice ca cs.length cc) cs.length (cs.map Value.string) (by rfl) (G7.out.leads.alloc _) ⟨w7.heap.size,0,none⟩ 1 1 [.string (Qad q).lead] (by rfl) (by rfl) (xM (cs:=#[.string (Qad q).lead]) (t:=9) (fr:=(0,0)) (xH w7 _)) (fun u hu=>by simp at hu;subst hu;rfl) (by decide) ?d1 ?d2 ?d3 (w7.heap.size+1) (by simp) ?_)
      case d1=>unfold maxLen;have:=HCN.out;have:=HN.out;omega
      case d2=>have:=HCN.out;have:=HN.out;omega
      case d3=>rw[xI];have:=Qaa G7.out.part;omega
      intro g' cap' w8 hown8 hgrow8 hat8 hlt8;have G8:=hQ (G7.out.lead HBX.out (xW _) (xA _) (Nat.succ_le_of_lt (Qaa G7.out.part)) hown8 hgrow8 hat8);clear hown8 hgrow8 hat8 hlt8 hi hz0 hz1 hz2 hft hfl x0 x1 x2 x3 x4 x5 x6;go_wp2
      go_roundg n
      case measure=>have:=HNG.out;omega
      case rel=>exact⟨true,ks ++ [t],cs ++ [(Qad q).lead],Qha q,_,_,_,_,by simp,by simp,rfl,HS.out,by have:=HKN.out;have:=HNG.out;simp;omega,by have:=HCN.out;have:=HNG.out;simp;omega,G8.out.kids,G8.out.leads,G8.out.state,G8.out.off,G8.out.part,by simp,by simp⟩
     ·have hk':((Qad q).text.toList == [44])=false:=by rw[Qbj];exact hk
      have HS:=hQ hs;clear hs hk;rw[hc]at x6;clear hc;have hft:=fun(w:World)=>Qe2 (Qad q).kind (Qad q).lead (Qad q).text w
      go_wp2_with fail;go_at_call 132;refine(Qbe _ G5.out.state).mono ?_;rintro e w6⟨rfl,hb6⟩;have G6:=hQ (G5.out.below hb6 HBX.out (xW _));clear hb6 G5 x0 x1 x2 x3 x4 x5 x6;go_wp2
      go_roundg n
      case measure=>have:=HNG.out;omega
      case rel=>exact⟨false,ks ++ [t],cs,q,_,_,_,_,by simp,rfl,rfl,HS.out,by have:=HKN.out;have:=HNG.out;simp;omega,by have:=HCN.out;have:=HNG.out;omega,G6.out.kids,G6.out.leads,G6.out.state,G6.out.off,G6.out.part,by simp,HC0.out⟩
     ·have HS:=hQ hs;clear hs;rw[hc]at x6;clear hc;go_wp2_with fail;go_at_call 130;refine(Qc5 x.kids _ G5.out.state).mono ?_;rintro e w6⟨rfl,hb6⟩;have G6:=hQ (G5.out.below hb6 HBX.out (xW _));clear hb6 G5 x0 x1 x2 x3 x4 x5 x6;go_wp2
      go_roundg n
      case measure=>have:=HNG.out;omega
      case rel=>exact⟨Qbw x.kids q != 0,ks ++ [t],cs,q,_,_,_,_,by simp,rfl,rfl,HS.out,by have:=HKN.out;have:=HNG.out;simp;omega,by have:=HCN.out;have:=HNG.out;omega,G6.out.kids,G6.out.leads,G6.out.state,G6.out.off,G6.out.part,by simp,HC0.out⟩
    ·cases hbg:(Qbw x.kids p' != 0)
     ·have HLM:=hQ (Qrk (ks:=ks) hbg);rw[HLM.out]at HTE;go_wp2_with fail;go_at_call 130;refine(Qc5 x.kids _ GR.out.state).mono ?_;rintro e w2⟨rfl,hb2⟩;have GC:=hQ (GR.out.below hb2 HBX.out (xW _));clear GR HLM hb2 x0 x1 x2 x3 x4 x5 x6;obtain⟨x0,x1,x2,x3,x4,x5,x6⟩:=Qb1 GC.out.part;go_wp2_with fail;go_at_call 85;refine(HTC.out b x.kids _ t q _ HTE.out GC.out.state).mono ?_;rintro e w4⟨v,rfl,htr,hp4,ho4⟩;have HTR:=hQ htr;have HSZ:=hQ GC.out.off.size;have HKC:=hQ (show ∀ k,blk ka=some k->k<w2.heap.size from fun k hk=>(GC.out.kids.blk hk).2.1);have HLC:=hQ (show ∀ k,blk ca=some k->k<w2.heap.size from fun k hk=>(Qgf GC.out.leads hk).2.1);have HPC:=hQ (Qaa GC.out.part);have G4:=hQ (GC.out.keep ho4 hp4 HBX.out (xW _));clear htr hp4 ho4 GC;obtain⟨vs,hown,hin⟩:=G4.out.kids;have HIN:=hQ hin;have HOW:=hQ hown;clear hin hown;obtain⟨i0,hi,hz0,hz1,hz2⟩:=info_parts Qcm;have h4s:=hQ G4.out.off.size;go_wp2_with (at_builtin;refine wpList_append_lies _ (by rfl) _ _ _ (by rfl) (w.heap.size+1) 25 i0 _ 4 72 underlying22 hi hz0 hz1 hz2 rfl (by decide) (.slice ka ks.length kc) ks.length (Qag vs) (by rfl) (HOW.out.alloc _) ⟨w4.heap.size,0,none⟩ 1 1 v.cells (by rfl) (by rfl) (xM (cs:=v.cells.toArray) (t:=25) (fr:=(0,0)) (xH w4 _)) (Qgu v) (by decide) ?b1 ?b2 ?b3 (w4.heap.size+1) (by simp) ?_)
      case b1=>unfold maxLen;have:=HKN.out;have:=HN.out;omega
      case b2=>have:=HKN.out;have:=HN.out;omega
      case b3=>rw[xI];have:=Qaa G4.out.part;omega
      intro g cap w5 hown5 hgrow hat5 hlt5;have G5:=hQ (G4.out.kid HBX.out (xW _) (xA _) HIN.out HPC.out HKC.out HLC.out HTR.out hown5 hgrow hat5);clear hown5 hgrow hat5 hlt5 hi hz0 hz1 hz2 x0 x1 x2 x3 x4 x5 x6;obtain⟨x0,x1,x2,x3,x4,x5,x6⟩:=Qb1 G5.out.part
      rcases HWY.out with⟨hc,hk,hs⟩|⟨hc,hk,hs⟩|⟨hc,hs⟩
      ·have hk':((Qad q).text.toList == [44])=true:=by rw[Qbj];exact hk
       have HS:=hQ hs;clear hs hk;rw[hc]at x6;clear hc;have hft:=fun(w:World)=>Qe2 (Qad q).kind (Qad q).lead (Qad q).text w
       have hfl:=fun(w:World)=>Qh8 (Qad q).kind (Qad q).lead (Qad q).text w
       go_wp2_with fail;go_at_call 132;refine(Qbe _ G5.out.state).mono ?_;rintro e w6⟨rfl,hb6⟩;have G6:=hQ (G5.out.below hb6 HBX.out (xW _));clear hb6 G5;go_wp2_with fail;go_at_call 133;refine(Qg3 _ G6.out.state).mono ?_;rintro e w7⟨rfl,hp7,ho7⟩;have G7:=hQ (G6.out.keep ho7 hp7 HBX.out (xW _));clear hp7 ho7 G6;obtain⟨j0,hi,hz0,hz1,hz2⟩:=info_parts Qdl;go_wp2_with (at_builtin;refine wpList_append_lies _ (by rfl) _ _ _ (by rfl) (w.heap.size+1) 9 j0 _ 1 16 underlying23 hi hz0 hz1 hz2 rfl (by decide) (.slice ca cs.length cc) cs.length (cs.map Value.string) (by rfl) (G7.out.leads.alloc _) ⟨w7.heap.size,0,none⟩ 1 1 [.string (Qad q).lead] (by rfl) (by rfl) (xM (cs:=#[.string (Qad q).lead]) (t:=9) (fr:=(0,0)) (xH w7 _)) (fun u hu=>by simp at hu;subst hu;rfl) (by decide) ?d1 ?d2 ?d3 (w7.heap.size+1) (by simp) ?_)
       case d1=>unfold maxLen;have:=HCN.out;have:=HN.out;omega
       case d2=>have:=HCN.out;have:=HN.out;omega
       case d3=>rw[xI];have:=Qaa G7.out.part;omega
       intro g' cap' w8 hown8 hgrow8 hat8 hlt8;have G8:=hQ (G7.out.lead HBX.out (xW _) (xA _) (Nat.succ_le_of_lt (Qaa G7.out.part)) hown8 hgrow8 hat8);clear hown8 hgrow8 hat8 hlt8 hi hz0 hz1 hz2 hft hfl x0 x1 x2 x3 x4 x5 x6;go_wp2
       go_roundg n
       case measure=>have:=HNG.out;omega
       case rel=>exact⟨true,ks ++ [t],cs ++ [(Qad q).lead],Qha q,_,_,_,_,by simp,by simp,rfl,HS.out,by have:=HKN.out;have:=HNG.out;simp;omega,by have:=HCN.out;have:=HNG.out;simp;omega,G8.out.kids,G8.out.leads,G8.out.state,G8.out.off,G8.out.part,by simp,by simp⟩
      ·have hk':((Qad q).text.toList == [44])=false:=by rw[Qbj];exact hk
       have HS:=hQ hs;clear hs hk;rw[hc]at x6;clear hc;have hft:=fun(w:World)=>Qe2 (Qad q).kind (Qad q).lead (Qad q).text w
       go_wp2_with fail;go_at_call 132;refine(Qbe _ G5.out.state).mono ?_;rintro e w6⟨rfl,hb6⟩;have G6:=hQ (G5.out.below hb6 HBX.out (xW _));clear hb6 G5 x0 x1 x2 x3 x4 x5 x6;go_wp2
       go_roundg n
       case measure=>have:=HNG.out;omega
       case rel=>exact⟨false,ks ++ [t],cs,q,_,_,_,_,by simp,rfl,rfl,HS.out,by have:=HKN.out;have:=HNG.out;simp;omega,by have:=HCN.out;have:=HNG.out;omega,G6.out.kids,G6.out.leads,G6.out.state,G6.out.off,G6.out.part,by simp,HC0.out⟩
      ·have HS:=hQ hs;clear hs;rw[hc]at x6;clear hc;go_wp2_with fail;go_at_call 130;refine(Qc5 x.kids _ G5.out.state).mono ?_;rintro e w6⟨rfl,hb6⟩;have G6:=hQ (G5.out.below hb6 HBX.out (xW _));clear hb6 G5 x0 x1 x2 x3 x4 x5 x6;go_wp2
       go_roundg n
       case measure=>have:=HNG.out;omega
       case rel=>exact⟨Qbw x.kids q != 0,ks ++ [t],cs,q,_,_,_,_,by simp,rfl,rfl,HS.out,by have:=HKN.out;have:=HNG.out;simp;omega,by have:=HCN.out;have:=HNG.out;omega,G6.out.kids,G6.out.leads,G6.out.state,G6.out.off,G6.out.part,by simp,HC0.out⟩
     ·have HLM:=hQ (Qve hlm hbg);rw[HLM.out]at HTE;go_wp2_with fail;go_at_call 130;refine(Qc5 x.kids _ GR.out.state).mono ?_;rintro e w2⟨rfl,hb2⟩;have GB:=hQ (GR.out.below hb2 HBX.out (xW _));clear GR HLM hb2 x0 x1 x2 x3 x4 x5 x6;go_wp2_with fail;go_at_call 131;refine(Qmr (x:=3) _ GB.out.state).mono ?_;rintro e w3⟨rfl,hp3,ho3⟩;have GC:=hQ (GB.out.keep ho3 hp3 HBX.out (xW _));clear GB hp3 ho3;obtain⟨x0,x1,x2,x3,x4,x5,x6⟩:=Qb1 GC.out.part;go_wp2_with fail;go_at_call 85;refine(HTC.out b x.kids _ t q _ HTE.out GC.out.state).mono ?_;rintro e w4⟨v,rfl,htr,hp4,ho4⟩;have HTR:=hQ htr;have HSZ:=hQ GC.out.off.size;have HKC:=hQ (show ∀ k,blk ka=some k->k<w3.heap.size from fun k hk=>(GC.out.kids.blk hk).2.1);have HLC:=hQ (show ∀ k,blk ca=some k->k<w3.heap.size from fun k hk=>(Qgf GC.out.leads hk).2.1);have HPC:=hQ (Qaa GC.out.part);have G4:=hQ (GC.out.keep ho4 hp4 HBX.out (xW _));clear htr hp4 ho4 GC;obtain⟨vs,hown,hin⟩:=G4.out.kids;have HIN:=hQ hin;have HOW:=hQ hown;clear hin hown;obtain⟨i0,hi,hz0,hz1,hz2⟩:=info_parts Qcm;have h4s:=hQ G4.out.off.size;go_wp2_with (at_builtin;refine wpList_append_lies _ (by rfl) _ _ _ (by rfl) (w.heap.size+1) 25 i0 _ 4 72 underlying22 hi hz0 hz1 hz2 rfl (by decide) (.slice ka ks.length kc) ks.length (Qag vs) (by rfl) (HOW.out.alloc _) ⟨w4.heap.size,0,none⟩ 1 1 v.cells (by rfl) (by rfl) (xM (cs:=v.cells.toArray) (t:=25) (fr:=(0,0)) (xH w4 _)) (Qgu v) (by decide) ?b1 ?b2 ?b3 (w4.heap.size+1) (by simp) ?_)
      case b1=>unfold maxLen;have:=HKN.out;have:=HN.out;omega
      case b2=>have:=HKN.out;have:=HN.out;omega
      case b3=>rw[xI];have:=Qaa G4.out.part;omega
      intro g cap w5 hown5 hgrow hat5 hlt5;have G5:=hQ (G4.out.kid HBX.out (xW _) (xA _) HIN.out HPC.out HKC.out HLC.out HTR.out hown5 hgrow hat5);clear hown5 hgrow hat5 hlt5 hi hz0 hz1 hz2 x0 x1 x2 x3 x4 x5 x6;obtain⟨x0,x1,x2,x3,x4,x5,x6⟩:=Qb1 G5.out.part
      rcases HWY.out with⟨hc,hk,hs⟩|⟨hc,hk,hs⟩|⟨hc,hs⟩
      ·have hk':((Qad q).text.toList == [44])=true:=by rw[Qbj];exact hk
       have HS:=hQ hs;clear hs hk;rw[hc]at x6;clear hc;have hft:=fun(w:World)=>Qe2 (Qad q).kind (Qad q).lead (Qad q).text w
       have hfl:=fun(w:World)=>Qh8 (Qad q).kind (Qad q).lead (Qad q).text w
       go_wp2_with fail;go_at_call 132;refine(Qbe _ G5.out.state).mono ?_;rintro e w6⟨rfl,hb6⟩;have G6:=hQ (G5.out.below hb6 HBX.out (xW _));clear hb6 G5;go_wp2_with fail;go_at_call 133;refine(Qg3 _ G6.out.state).mono ?_;rintro e w7⟨rfl,hp7,ho7⟩;have G7:=hQ (G6.out.keep ho7 hp7 HBX.out (xW _));clear hp7 ho7 G6;obtain⟨j0,hi,hz0,hz1,hz2⟩:=info_parts Qdl;go_wp2_with (at_builtin;refine wpList_append_lies _ (by rfl) _ _ _ (by rfl) (w.heap.size+1) 9 j0 _ 1 16 underlying23 hi hz0 hz1 hz2 rfl (by decide) (.slice ca cs.length cc) cs.length (cs.map Value.string) (by rfl) (G7.out.leads.alloc _) ⟨w7.heap.size,0,none⟩ 1 1 [.string (Qad q).lead] (by rfl) (by rfl) (xM (cs:=#[.string (Qad q).lead]) (t:=9) (fr:=(0,0)) (xH w7 _)) (fun u hu=>by simp at hu;subst hu;rfl) (by decide) ?d1 ?d2 ?d3 (w7.heap.size+1) (by simp) ?_)
       case d1=>unfold maxLen;have:=HCN.out;have:=HN.out;omega
       case d2=>have:=HCN.out;have:=HN.out;omega
       case d3=>rw[xI];have:=Qaa G7.out.part;omega
       intro g' cap' w8 hown8 hgrow8 hat8 hlt8;have G8:=hQ (G7.out.lead HBX.out (xW _) (xA _) (Nat.succ_le_of_lt (Qaa G7.out.part)) hown8 hgrow8 hat8);clear hown8 hgrow8 hat8 hlt8 hi hz0 hz1 hz2 hft hfl x0 x1 x2 x3 x4 x5 x6;go_wp2
       go_roundg n
       case measure=>have:=HNG.out;omega
       case rel=>exact⟨true,ks ++ [t],cs ++ [(Qad q).lead],Qha q,_,_,_,_,by simp,by simp,rfl,HS.out,by have:=HKN.out;have:=HNG.out;simp;omega,by have:=HCN.out;have:=HNG.out;simp;omega,G8.out.kids,G8.out.leads,G8.out.state,G8.out.off,G8.out.part,by simp,by simp⟩
      ·have hk':((Qad q).text.toList == [44])=false:=by rw[Qbj];exact hk
       have HS:=hQ hs;clear hs hk;rw[hc]at x6;clear hc;have hft:=fun(w:World)=>Qe2 (Qad q).kind (Qad q).lead (Qad q).text w
       go_wp2_with fail;go_at_call 132;refine(Qbe _ G5.out.state).mono ?_;rintro e w6⟨rfl,hb6⟩;have G6:=hQ (G5.out.below hb6 HBX.out (xW _));clear hb6 G5 x0 x1 x2 x3 x4 x5 x6;go_wp2
       go_roundg n
       case measure=>have:=HNG.out;omega
       case rel=>exact⟨false,ks ++ [t],cs,q,_,_,_,_,by simp,rfl,rfl,HS.out,by have:=HKN.out;have:=HNG.out;simp;omega,by have:=HCN.out;have:=HNG.out;omega,G6.out.kids,G6.out.leads,G6.out.state,G6.out.off,G6.out.part,by simp,HC0.out⟩
      ·have HS:=hQ hs;clear hs;rw[hc]at x6;clear hc;go_wp2_with fail;go_at_call 130;refine(Qc5 x.kids _ G5.out.state).mono ?_;rintro e w6⟨rfl,hb6⟩;have G6:=hQ (G5.out.below hb6 HBX.out (xW _));clear hb6 G5 x0 x1 x2 x3 x4 x5 x6;go_wp2
       go_roundg n
       case measure=>have:=HNG.out;omega
       case rel=>exact⟨Qbw x.kids q != 0,ks ++ [t],cs,q,_,_,_,_,by simp,rfl,rfl,HS.out,by have:=HKN.out;have:=HNG.out;simp;omega,by have:=HCN.out;have:=HNG.out;omega,G6.out.kids,G6.out.leads,G6.out.state,G6.out.off,G6.out.part,by simp,HC0.out⟩
end Go.Proofs.YtfjpemdejoejbaaGreat
