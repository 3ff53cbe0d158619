/- Part 37 -/
import Derived.Test.YtfjpemdejoejbaaGreatTp35
set_option maxRecDepth 100000
set_option maxHeartbeats 4000000
namespace Go.Proofs.YtfjpemdejoejbaaGreat
open Go.Proofs.Tryz Go.RowKit Go.Shelf
theorem Qs2(w:World)(T:TypeId):(w.alloc (.cells #[] T)).ownsRow w.heap.size T 4 (.slice (some ⟨w.heap.size,0,none⟩) 0 0) 0 [] :=
 ⟨rfl,.inr ⟨w.heap.size,0,#[],rfl,xA _,xH w _,xA _,xZ _,rfl,rfl⟩⟩
theorem Qk9{w:World}{B n g c:Nat}{T:TypeId}{us:List TV}(h:w.ownsRow B T 4 (.slice (some ⟨g,0,none⟩) n c) n (Qag us))(hn:0<n):B<=g/\n<=c/\∃ cur,w.heap[g]? = some (.cells cur T (0,0))/\RowIs cur us:=by
 rcases h.2 with⟨_,h0⟩|⟨g',cap,cur,hv,hb,hh,hnc,hm,hsz,htk⟩
 ·omega
 ·injection hv with e1 e2 e3;injection e1 with e1;injection e1 with e1;subst e1 e3;refine⟨hb,hnc,cur,hh,fun i v hv=>?_⟩;obtain⟨q0,q1,q2,q3⟩:=Qd1 us i v hv
  have hget:∀ (o:Nat) (x:Value),(Qag us)[o]? = some x->cur[o]? = some x:=fun o x hx=>by
   rw[<-htk]at hx
   have hlt:o<n*4:=by
    have:=(xP.1 hx).1
    rw[List.length_take]at this;omega
   rw[List.getElem?_take_of_lt hlt]at hx;rw[<-Array.getElem?_toList];exact hx
  exact⟨hget _ _ q0,hget _ _ q1,hget _ _ q2,hget _ _ q3⟩
theorem Qla(w:World)(T:TypeId):(w.alloc (.cells #[] T)).ownsRow w.heap.size T 1 (.slice (some ⟨w.heap.size,0,none⟩) 0 0) 0 [] :=
 ⟨rfl,.inr ⟨w.heap.size,0,#[],rfl,xA _,xH w _,xA _,xZ _,rfl,rfl⟩⟩
theorem Zk0{w:World}{b off:Nat}{xs:List Value}(h:∀ (j:Nat) (x:Value),xs[j]? = some x->w.cell? ⟨b,off+j,none⟩=some x){w':World}(hb:Below w.heap.size w w'):∀ (j:Nat) (u:Value),xs[j]? = some u->w'.cell? ((⟨b,off,none⟩:Addr).add j)=some u:=fun j u hu=>by
 rw[show((⟨b,off,none⟩:Addr).add j)=⟨b,off+j,none⟩ from by unfold Addr.add;split <;> simp_all];have h1:=h j u hu;exact(xJ (w:=w) (a:=⟨b,off+j,none⟩) (hb.block b (xK w _ h1))).trans h1
def LdS(lo:Nat)(la:yE)(q:Nat)(wr:World):Prop:=∃ ls:List yD,ls.length=q/\(∀ y∈ls,y.size<=5)/\(0<q->∃ g cs,la=some ⟨g,0,none⟩/\wr.heap[g]? = some (.cells cs 9 (0,0))/\lo<=g/\∀ (i:Nat) (s:yD),ls[i]? = some s->cs[i]? = some (.string s))
theorem LdS.at{lo q i:Nat}{la:yE}{wr:World}(h:LdS lo la q wr)(hi:i<q):∃ g,la=some ⟨g,0,none⟩/\lo<=g/\g<wr.heap.size/\(∀ o,wr.frozen? ⟨g,o,none⟩=false)/\∃ s,wr.cell? ⟨g,i,none⟩=some (.string s):=by
 obtain⟨ls,h4,h5,h6⟩:=h;obtain⟨g,cs,q1,q2,q3,q5⟩:=h6 (by omega);obtain⟨s,hs⟩:∃ s,ls[i]? = some s:=⟨_,xF (by omega)⟩;exact⟨g,q1,q3,Qaa q2,fun o=>xL q2 _,s,Qab q2 i _ (q5 i s hs)⟩
theorem LdS.put{lo q g i:Nat}{wr:World}{s:yD}(h:LdS lo (some ⟨g,0,none⟩) q wr)(hi:i<q)(hs:s.size<=5):LdS lo (some ⟨g,0,none⟩) q (wr.setCell ⟨g,i,none⟩ (.string s)):=by
 obtain⟨ls,h4,h5,h6⟩:=h;obtain⟨g',cs,q1,q2,q3,q5⟩:=h6 (by omega);injection q1 with q1;injection q1 with q1 _ _;subst q1
 refine⟨ls.set i s,by rw[List.length_set,h4],fun y hy=>?_,fun _=>⟨g,_,rfl,Qa1 q2 rfl,q3,fun j z hz=>?_⟩⟩
 ·rcases List.mem_or_eq_of_mem_set hy with h | h
  ·exact h5 y h
  ·rw[h];exact hs
 ·have hcs:i<cs.size:=by
   obtain⟨z',hz'⟩:∃ z,ls[i]? = some z:=⟨_,xF (by omega)⟩;exact(Array.getElem?_eq_some_iff.1 (q5 i z' hz')).1
  by_cases hj:j=i
  ·subst hj;rw[List.getElem?_set_self (by omega)]at hz;injection hz with hz;subst hz;rw[Array.getElem?_setIfInBounds_self_of_lt hcs]
  ·rw[List.getElem?_set_ne (fun e=>hj e.symm)]at hz;rw[xY (fun e=>hj e.symm)];exact q5 j z hz
theorem LdS.other{lo q:Nat}{la:yE}{wr w':World}(h:LdS lo la q wr)(hb:∀ b,lo<=b->b<wr.heap.size->(0<q/\la=some ⟨b,0,none⟩)->w'.heap[b]? = wr.heap[b]?):LdS lo la q w':=by
 obtain⟨ls,h4,h5,h6⟩:=h;refine⟨ls,h4,h5,fun hq=>?_⟩;obtain⟨g,cs,q1,q2,q3,q4⟩:=h6 hq;exact⟨g,cs,q1,(hb g q3 (Qaa q2) ⟨hq,q1⟩).trans q2,q3,q4⟩
theorem LdS.nil(lo:Nat)(la:yE)(wr:World):LdS lo la 0 wr:=⟨[],rfl,fun y h=>by simp at h,fun h=>absurd h (by omega)⟩
structure Ls1 (B:Nat) (v:TV) (w wr:World):Prop where
 rest:Rest1 B w wr
 dice:DiceAt B wr
 box:wr.heap[w.heap.size]? = some (trO v)
 res:wr.heap[w.heap.size+1]? = some (.cells #[.int .i64 0,.string ⟨#[]⟩,.slice none 0 0,.slice none 0 0] 25 (0,0))
 ld:LdS (w.heap.size+2) v.la v.ll wr
 cap:v.ll<=v.lc
theorem Ls1.step{B:Nat}{v:TV}{w wr w':World}(h:Ls1 B v w wr)(hB:B<w.heap.size)(hr:Rest1 B wr w')(hd:DiceAt B w'):Ls1 B v w w' :=
 ⟨h.rest.trans hr,hd,(hr.block _ (Qaa h.box) (by omega)).trans h.box,(hr.block _ (Qaa h.res) (by omega)).trans h.res,h.ld.other fun b hb hl _=>hr.block b hl (by omega),h.cap⟩
theorem Ls1.put{B g i:Nat}{v:TV}{w wr:World}{s:yD}(h:Ls1 B v w wr)(hB:B<w.heap.size)(hla:v.la=some ⟨g,0,none⟩)(hg:w.heap.size+2<=g)(hi:i<v.ll)(hs:s.size<=5):Ls1 B v w (wr.setCell ⟨g,i,none⟩ (.string s)):=by
 refine⟨⟨h.rest.os,h.rest.tape,h.rest.output,by have:=h.rest.size;simpa [World.setCell] using this,fun k hk hne=>(Qaq (by omega)).trans (h.rest.block k hk hne)⟩,h.dice.other fun k hk=>Qaq (by omega),(Qaq (by omega)).trans h.box,(Qaq (by omega)).trans h.res,?_,h.cap⟩
 ·have:=h.ld
  rw[hla]at this |-;exact this.put hi hs
def Ls1C(B:Nat)(k:Int)(x:yD)(q:Nat)(ka:yE)(n c:Nat)(w wx:World):Prop:=∃ (la:yE) (lc:Nat),Ls1 B ⟨k,x,la,q,lc,ka,n,c⟩ w wx
theorem Zhv{B:Nat}{k:Int}{x:yD}{la la' ka:yE}{lc lc' q n c:Nat}{w W:World}(hq:q=0)(hB:B<w.heap.size)(hr:Rest1 B w W)(hd:DiceAt B W)(hx:W.heap[w.heap.size]? = some (trO ⟨k,x,la,q,lc,ka,n,c⟩))(hz:W.heap[w.heap.size+1]? = some (.cells #[.int .i64 0,.string ⟨#[]⟩,.slice none 0 0,.slice none 0 0] 25 (0,0)))(o:Obj) :
  Ls1 B ⟨k,x,la',q,lc',ka,n,c⟩ w ((W.setCell ⟨w.heap.size,2,none⟩ (.slice la' q lc')).alloc o):=by
 subst hq;have hb:Below (W.setCell ⟨w.heap.size,2,none⟩ (.slice la' 0 lc')).heap.size (W.setCell ⟨w.heap.size,2,none⟩ (.slice la' 0 lc')) ((W.setCell ⟨w.heap.size,2,none⟩ (.slice la' 0 lc')).alloc o):=(xC _ _).alloc (xA _) _;have hsz:(W.setCell ⟨w.heap.size,2,none⟩ (.slice la' 0 lc')).heap.size=W.heap.size:=by simp[World.setCell]
 have h1:Ls1 B ⟨k,x,la',0,lc',ka,n,c⟩ w (W.setCell ⟨w.heap.size,2,none⟩ (.slice la' 0 lc')):=⟨⟨hr.os,hr.tape,hr.output,by rw[hsz];exact hr.size,fun b hb hne=>(Qaq (by omega)).trans (hr.block b hb hne)⟩,hd.other fun b hb=>Qaq (by omega),Qa1 hx rfl,(Qaq (by omega)).trans hz,LdS.nil _ _ _,xZ _⟩;exact h1.step hB (Rest1.below hb) (h1.dice.keep hb)
theorem Zhw{B g:Nat}{k:Int}{x:yD}{la ka:yE}{lc cap q n c:Nat}{l:List yD}{w W w5:World}{o:Obj}(hB:B<w.heap.size)(hs:W.heap.size=w.heap.size+2)(hr:Rest1 B w W)(hd:DiceAt B W)(hx:W.heap[w.heap.size]? = some (trO ⟨k,x,la,q,lc,ka,n,c⟩))(hz:W.heap[w.heap.size+1]? = some (.cells #[.int .i64 0,.string ⟨#[]⟩,.slice none 0 0,.slice none 0 0] 25 (0,0)))
  (hl:l.length=q) (h5:∀ y∈l,y.size<=5) (ho:w5.ownsRow W.heap.size 9 1 (.slice (some ⟨g,0,none⟩) q cap) q (l.map Value.string)) (hg:(W.alloc o).grownBy w5 (some W.heap.size)) :
  Ls1 B ⟨k,x,some ⟨g,0,none⟩,q,cap,ka,n,c⟩ w (w5.setCell ⟨w.heap.size,2,none⟩ (.slice (some ⟨g,0,none⟩) q cap)):=by
 have hb5:Below W.heap.size W w5:=((xC W.heap.size W).alloc (xA _) o).grown hg (by rw[xI];omega) (fun k hk=>by injection hk with hk;omega);have hr5:=hr.trans (Rest1.below (g:=B) hb5);have hd5:=hd.keep hb5;have hx5:=(hb5.block _ (Qaa hx)).trans hx;have hz5:=(hb5.block _ (Qaa hz)).trans hz;have hsz:(w5.setCell ⟨w.heap.size,2,none⟩ (.slice (some ⟨g,0,none⟩) q cap)).heap.size=w5.heap.size:=by simp[World.setCell]
 refine⟨⟨hr5.os,hr5.tape,hr5.output,by rw[hsz];exact hr5.size,fun b hb hne=>(Qaq (by omega)).trans (hr5.block b hb hne)⟩,hd5.other fun b hb=>Qaq (by omega),Qa1 hx5 rfl,(Qaq (by omega)).trans hz5,⟨l,hl,h5,fun hq=>?_⟩,Qgv ho⟩;obtain⟨g',cs,q1,q2,q3,q4⟩:=Zd9 ho hl hq;exact⟨g',cs,q1,(Qaq (by omega)).trans q2,by omega,q4⟩
structure Ls3 (B:Nat) (v:TV) (gk:Nat) (S:Nat->Prop) (t:Tr) (j:Nat) (ks:List Tr) (vs:List TV) (w wr:World):Prop where
 one:Ls1 B v w wr
 la:0<v.ll->v.la≠some ⟨gk,0,none⟩
 glo:w.heap.size+2<=gk
 row:∃ cs,wr.heap[gk]? = some (.cells cs 25 (0,0))/\RowIs cs vs
 klen:ks.length=j
 vlen:vs.length=t.kids.length
 done:∀ (i:Nat) (k:Tr) (u:TV),ks[i]? = some k->vs[i]? = some u->TrAt (fun b=>gk<b/\b<wr.heap.size) wr k u
 todo:∀ (i:Nat) (k:Tr) (u:TV),j<=i->t.kids[i]? = some k->vs[i]? = some u->TrAt S w k u
 tiny:Qbu ks=true
 size:Qal ks<=Qal (t.kids.take j)
theorem Zek{cs:Array Value}{vs:List TV}(h:RowIs cs vs){j:Nat}(hj:j<vs.length)(y:TV):RowIs (Zif cs (j*4) y) (vs.set j y):=RowIs.set h hj y
theorem Ls3.next{B gk j:Nat}{v:TV}{S:Nat->Prop}{t k':Tr}{ks:List Tr}{vs:List TV}{w wr w5:World}{k:Tr}{y:TV}(h:Ls3 B v gk S t j ks vs w wr)(hB:B<w.heap.size)(hk:t.kids[j]? = some k)(hr:Rest1 B wr w5)(hd:DiceAt B w5)(ht:TrAt (fun b=>wr.heap.size<=b/\b<w5.heap.size) w5 k' y)(hs:Qai k'<=Qai k)(hti:Qf6 k'=true) :
  Ls3 B v gk S t (j+1) (ks ++ [k']) (vs.set j y) w (Zfd w5 gk (j*4) y):=by
 have hgk:=h.glo;have hlt:=(xP.1 hk).1;obtain⟨cs,hc,hrow⟩:=h.row;have hgl:=Qaa hc;have hc5:=(hr.block gk hgl (by omega)).trans hc;have h1:=h.one.step hB hr hd;have hz:=Qn5 w5 gk (j*4) y;have hs5:=hr.size
 refine⟨⟨⟨h1.rest.os,h1.rest.tape,h1.rest.output,by rw[hz];exact h1.rest.size,fun k hk hne=>(Qeq (j*4) y (by omega)).trans (h1.rest.block k hk hne)⟩,hd.other fun k hk=>Qeq (j*4) y (by omega),(Qeq (j*4) y (by omega)).trans h1.box,(Qeq (j*4) y (by omega)).trans h1.res,h1.ld.other fun b hb hl hla=>Qeq (j*4) y (fun e=>?_),h1.cap⟩,h.la,hgk,⟨_,Qn4 (j*4) y hc5,Zek hrow (by rw[h.vlen];exact hlt) y⟩,by rw[xB,h.klen];rfl,by rw[List.length_set,h.vlen],fun i k'' u hk'' hu=>?_,fun i k'' u hi hk'' hu=>?_,by rw[Qg7,h.tiny,Qbu,hti,Qbu];rfl,by rw[Qel,Qe9 hk,Qal,Qal];have:=h.size;omega⟩
 ·exact h.la hla.1 (by rw[hla.2,e])
 ·by_cases hi:i<ks.length
  ·rw[yB hi]at hk'';rw[List.getElem?_set_ne (by have:=h.klen;omega)]at hu;exact TrAt.move (fun b hb=>⟨hb.1,by rw[hz];omega⟩) (fun b hb hl=>(Qeq (j*4) y (by omega)).trans (hr.block b hl (by omega))) _ _ (h.done i k'' u hk'' hu)
  ·have hl:=(xP.1 hk'').1;rw[xB,List.length_singleton]at hl;obtain rfl:i=ks.length:=by omega
   rw[xX (xA _),Nat.sub_self]at hk'';have hkl:=h.klen;rw[hkl,List.getElem?_set_self (by rw[h.vlen];exact hlt)]at hu;injection hk'' with hk'';injection hu with hu;subst hk'' hu;exact TrAt.move (fun b hb=>⟨by omega,by rw[hz];exact hb.2⟩) (fun b hb _=>Qeq (j*4) y (by omega)) _ _ ht
 ·rw[List.getElem?_set_ne (by omega)]at hu;exact h.todo i k'' u (by omega) hk'' hu
theorem Ls3.made{B n gk:Nat}{kd:Int}{tx:yD}{la:yE}{q lc m kc:Nat}{S:Nat->Prop}{t:Tr}{ks:List Tr}{vs:List TV}{w wr:World}(h:Ls3 B ⟨kd,tx,la,q,lc,some ⟨gk,0,none⟩,m,kc⟩ gk S t m ks vs w wr)(hm:m=t.kids.length)(hx:szq tx<=7)(hq:q<=m+6)(hc:m<=kc)(hn:Qai t<=n)(hB:B<w.heap.size) :
  Qyp B n kd w (.returned (.agg #[.int .i64 kd,.string tx,.slice la q lc,.slice (some ⟨gk,0,none⟩) m kc])) (Qek wr (w.heap.size+1) ⟨kd,tx,la,q,lc,some ⟨gk,0,none⟩,m,kc⟩):=by
 obtain⟨ls,l1,l2,l3⟩:=h.one.ld;have hgk:=h.glo;obtain⟨cs,hc0,hrow⟩:=h.row;have hz:=Qb7 wr (w.heap.size+1) ⟨kd,tx,la,q,lc,some ⟨gk,0,none⟩,m,kc⟩;have hk:∀ b,b≠w.heap.size+1->(Qek wr (w.heap.size+1) ⟨kd,tx,la,q,lc,some ⟨gk,0,none⟩,m,kc⟩).heap[b]? = wr.heap[b]?:=fun b hb=>Qa3 _ hb
 refine⟨.mk kd tx ls ks,⟨kd,tx,la,q,lc,some ⟨gk,0,none⟩,m,kc⟩,rfl,?_,by rw[Qai];have:=h.size;rw[hm,List.take_length]at this;rw[Qa5]at hn;omega,Qcp.2 ⟨hx,by rw[l1,h.klen];exact hq,l2,h.tiny⟩,Qe4 _ (by omega) h.one.rest,Qe5 _ h.one.dice (by omega),.inl rfl⟩;unfold TrAt
 refine⟨rfl,rfl,l1.symm,h.klen.symm,fun hne=>?_,fun hne=>?_,h.one.cap,hc⟩
 ·obtain⟨g,cg,q1,q2,q3,q5⟩:=l3 (by rw[<-l1];exact List.length_pos_iff.2 hne);refine⟨g,0,q1,⟨by omega,by rw[hz];exact Qaa q2⟩,fun i y hy=>?_⟩;rw[Nat.zero_add];exact(xJ (w:=wr) (a:=⟨g,i,none⟩) (hk g (by omega))).trans (Qab q2 i _ (q5 i y hy))
 ·refine⟨gk,0,rfl,⟨by omega,by rw[hz];exact Qaa hc0⟩,TrsAt.of ks 0 fun i k hki=>?_⟩;have hi:=(xP.1 hki).1;obtain⟨u,hu⟩:∃ u,vs[i]? = some u:=⟨_,xF (by rw[h.vlen,<-hm,<-h.klen];exact hi)⟩;obtain⟨q0,q1,q2,q3⟩:=hrow i u hu;have hcc:∀ (o:Nat) (z:Value),cs[o]? = some z->(Qek wr (w.heap.size+1) ⟨kd,tx,la,q,lc,some ⟨gk,0,none⟩,m,kc⟩).cell? ⟨gk,o,none⟩=some z:=fun o z hz=>(xJ (w:=wr) (a:=⟨gk,o,none⟩) (hk gk (by omega))).trans (Qab hc0 o _ hz)
  rw[Nat.zero_add];exact⟨u,hcc _ _ q0,hcc _ _ q1,hcc _ _ q2,hcc _ _ q3,TrAt.move (fun b hb=>⟨by omega,by rw[hz];exact hb.2⟩) (fun b hb _=>hk b (by omega)) _ _ (h.done i k u hki hu)⟩
def Ls2C(B:Nat)(k:Int)(x:yD)(la:yE)(q lc:Nat)(S:Nat->Prop)(t:Tr)(w wx:World):Prop:=∃ (ka:yE) (c:Nat),Ls1 B ⟨k,x,la,q,lc,ka,t.kids.length,c⟩ w wx/\(0<t.kids.length->t.kids.length<=c/\∃ gk vs,ka=some ⟨gk,0,none⟩/\Ls3 B ⟨k,x,la,q,lc,ka,t.kids.length,c⟩ gk S t 0 [] vs w wx)
theorem Ls1.kids{B:Nat}{k:Int}{x:yD}{la ka:yE}{q lc n c:Nat}{w wr:World}(h:Ls1 B ⟨k,x,la,q,lc,ka,n,c⟩ w wr)(hB:B<w.heap.size)(ka':yE)(n' c':Nat){w5:World}(hb:Below wr.heap.size wr w5):Ls1 B ⟨k,x,la,q,lc,ka',n',c'⟩ w (w5.setCell ⟨w.heap.size,3,none⟩ (.slice ka' n' c')):=by
 have h5:=h.step hB (Rest1.below (g:=B) hb) (h.dice.keep hb);have hsz:(w5.setCell ⟨w.heap.size,3,none⟩ (.slice ka' n' c')).heap.size=w5.heap.size:=by simp[World.setCell]
 exact⟨⟨h5.rest.os,h5.rest.tape,h5.rest.output,by rw[hsz];exact h5.rest.size,fun b hb hne=>(Qaq (by omega)).trans (h5.rest.block b hb hne)⟩,h5.dice.other fun b hb=>Qaq (by omega),Qa1 h5.box rfl,(Qaq (by omega)).trans h5.res,h5.ld.other fun b hb _ _=>Qaq (by omega),h5.cap⟩
def LkR(B:Nat)(k:Int)(x:yD)(la:yE)(q lc:Nat)(ka:yE)(c:Nat)(S:Nat->Prop)(t:Tr)(w:World)(i:Value)(wx:World):Prop:=∃ j:Nat,i = .int .i64 j/\j<=t.kids.length /\
 ((t.kids.length=0/\Ls1 B ⟨k,x,la,q,lc,ka,t.kids.length,c⟩ w wx)\/(t.kids.length<=c/\∃ gk ks vs,ka=some ⟨gk,0,none⟩/\Ls3 B ⟨k,x,la,q,lc,ka,t.kids.length,c⟩ gk S t j ks vs w wx))
theorem Ls2C.start{B:Nat}{k:Int}{x:yD}{la:yE}{q lc:Nat}{S:Nat->Prop}{t:Tr}{w wx:World}(h:Ls2C B k x la q lc S t w wx):∃ (ka:yE) (c:Nat),Ls1 B ⟨k,x,la,q,lc,ka,t.kids.length,c⟩ w wx/\LkR B k x la q lc ka c S t w (.int .i64 (0:Nat)) wx:=by
 obtain⟨ka,c,h1,h2⟩:=h;refine⟨ka,c,h1,0,rfl,xZ _,?_⟩
 by_cases hn:t.kids.length=0
 ·exact .inl ⟨hn,h1⟩
 ·obtain⟨h3,gk,vs,h4,h5⟩:=h2 (by omega);exact .inr ⟨h3,gk,[],vs,h4,h5⟩
theorem Ls3.start{B gk cap n c:Nat}{k:Int}{x:yD}{la ka:yE}{q lc:Nat}{t:Tr}{us:List TV}{w wr w5:World}(hB:B<w.heap.size)(h:Ls1 B ⟨k,x,la,q,lc,ka,n,c⟩ w wr)(_hn:n=t.kids.length)(h0:0<n)(hb:Below wr.heap.size wr w5)(ho:w5.ownsRow wr.heap.size 25 4 (.slice (some ⟨gk,0,none⟩) n cap) n (Qag us))(hul:us.length=t.kids.length)
  (hu:∀ (i:Nat) (k:Tr) (u:TV),t.kids[i]? = some k->us[i]? = some u->TrAt (fun b=>b<w.heap.size/\b≠B) wr k u):n<=cap/\Ls3 B ⟨k,x,la,q,lc,some ⟨gk,0,none⟩,n,cap⟩ gk (fun b=>b<w.heap.size/\b≠B) t 0 [] us w (w5.setCell ⟨w.heap.size,3,none⟩ (.slice (some ⟨gk,0,none⟩) n cap)):=by
 obtain⟨r1,r2,cur,r3,r4⟩:=Qk9 ho h0;have hws:=Qaa h.res;refine⟨r2,h.kids hB _ _ _ hb,fun hq e=>?_,by omega,⟨cur,(Qaq (by omega)).trans r3,r4⟩,rfl,hul,fun i k u hk=>by simp at hk,fun i k u _ hk hu'=>TrAt.move (fun _ h=>h) (fun b hb _=>(h.rest.block b hb.1 hb.2).symm) _ _ (hu i k u hk hu'),by rw[Qbu],by rw[List.take_zero];exact xA _⟩;obtain⟨g',e',_,hl,_⟩:=h.ld.at hq;have e2:(some ⟨g',0,none⟩:yE)=some ⟨gk,0,none⟩:=e'.symm.trans e;injection e2 with e2;injection e2 with e2 _ _;omega
theorem Ls1.made{B n:Nat}{kd:Int}{tx:yD}{la ka:yE}{q lc kc:Nat}{t:Tr}{w wr:World}(h:Ls1 B ⟨kd,tx,la,q,lc,ka,0,kc⟩ w wr)(hx:szq tx<=7)(hq:q<=6)(hn:Qai t<=n)(hB:B<w.heap.size) :
  Qyp B n kd w (.returned (.agg #[.int .i64 kd,.string tx,.slice la q lc,.slice ka 0 kc])) (Qek wr (w.heap.size+1) ⟨kd,tx,la,q,lc,ka,0,kc⟩):=by
 obtain⟨ls,l1,l2,l3⟩:=h.ld;have hz:=Qb7 wr (w.heap.size+1) ⟨kd,tx,la,q,lc,ka,0,kc⟩;refine⟨.mk kd tx ls [],⟨kd,tx,la,q,lc,ka,0,kc⟩,rfl,?_,by rw[Qai,Qal];rw[Qa5]at hn;omega,Qcp.2 ⟨hx,by rw[l1];exact hq,l2,by rw[Qbu]⟩,Qe4 _ (by omega) h.rest,Qe5 _ h.dice (by omega),.inl rfl⟩;unfold TrAt;refine⟨rfl,rfl,l1.symm,rfl,fun hne=>?_,fun hne=>absurd rfl hne,h.cap,xZ _⟩;obtain⟨g,cg,q1,q2,q3,q5⟩:=l3 (by rw[<-l1];exact List.length_pos_iff.2 hne);refine⟨g,0,q1,⟨by omega,by rw[hz];exact Qaa q2⟩,fun i y hy=>?_⟩;rw[Nat.zero_add];exact(xJ (w:=wr) (a:=⟨g,i,none⟩) (Qa3 (k:=g) _ (by omega))).trans (Qab q2 i _ (q5 i y hy))
theorem Zel(B b n:Nat)(ls:List yD)(w:World)(hd:DiceAt B w)(hn:ls.length=n)(h1:1<=n)(h2:n<=100)(hs:∀ s∈ls,s.size<=5)(hb:B<b)(hc:∀ (i:Nat) (s:yD),ls[i]? = some s->w.cell? ⟨b,i,none⟩=some (.string s)) :
  Calls prog 99 #[.pointer (some ⟨B,0,none⟩),.slice (some ⟨b,0,none⟩) n n] w fun e w'=>∃ s:yD,e = .returned (.string s)/\s.size<=5/\Rest1 B w w'/\DiceAt B w':=by
 obtain⟨r,q0,q1,hN⟩:=Qv3 B n w hd (by omega) (by omega);have HNX:=hQ (hN w fun _ _=>rfl);have HC:=hQ hc;have HS:=hQ hs;have HN:=hQ hn;clear hc hs hn hN;go_enter func99,ntmps99;go_wp2_with fail;go_at_call 42;refine HNX.out.mono ?_;rintro e w1⟨rfl,hrest,hd1⟩;obtain⟨k,rfl⟩:∃ k:Nat,r=(k:Int):=⟨r.toNat,by omega⟩;obtain⟨s,hk⟩:∃ s,ls[k]? = some s:=⟨_,xF (by have:=HN.out;omega)⟩;have c:=HC.out k s hk;have c1:=(xJ (w:=w) (a:=⟨b,k,none⟩) (hrest.block b (xK w _ c) (by omega))).trans c;have hbl:=xK w1 _ c1;have HR:=hQ hrest;have HD1:=hQ hd1;have HSZ:=hQ (HS.out s (yA hk));clear hrest hd1 hk c;go_wp2;go_ret;exact⟨s,rfl,HSZ.out,HR.out,HD1.out⟩
theorem Zem(B n:Nat)(ls:List yD)(cs:Array Value)(w:World)(hd:DiceAt B w)(hcs:cs.toList=ls.map Value.string)(hn:ls.length=n)(h1:1<=n)(h2:n<=100)(hs:∀ s∈ls,s.size<=5) :
  Calls prog 99 #[.pointer (some ⟨B,0,none⟩),.slice (some ⟨w.heap.size,0,none⟩) n n] (w.alloc (.cells cs 9)).drew fun e w'=>∃ s:yD,e = .returned (.string s)/\s.size<=5/\Rest1 B w w'/\DiceAt B w':=by
 have hd0:=(hd.keep ((xC _ _).alloc (xA _) (.cells cs 9))).drew
 have hc:∀ (i:Nat) (s:yD),ls[i]? = some s->(w.alloc (.cells cs 9)).drew.cell? ⟨w.heap.size,i,none⟩=some (.string s):=fun i s hi=>Qab (w:=(w.alloc (.cells cs 9)).drew) (xH w (.cells cs 9)) i _ (by
  rw[<-Array.getElem?_toList,hcs,List.getElem?_map,hi];rfl)
 refine(Zel B w.heap.size n ls _ hd0 hn h1 h2 hs hd.lt hc).mono ?_;rintro e w'⟨s,q1,q2,q3,q4⟩;exact⟨s,q1,q2,(Rest1.below ((xC _ _).alloc (xA _) (.cells cs 9))).trans q3.ofDrew,q4⟩
theorem Qzi(B:Nat)(N:Nat):∀ (t:Tr) (v:TV) (w:World),SizeOf.sizeOf t<=N->TrAt (fun b=>b<w.heap.size/\b≠B) w t v->DiceAt B w->Qf6 t=true->Qai t<=1000 ->
  Calls prog 68 #[.pointer (some ⟨B,0,none⟩),.agg #[.int .i64 v.kind,.string v.text,.slice v.la v.ll v.lc,.slice v.ka v.kl v.kc]] w (Qyp B (Qai t) v.kind w):=by
 induction N with
 | zero=>intro t v w h;have:=Qf3 t;omega
 | succ N ih =>
  intro t v w hN h hd hti hsz;have HIH:=hQ ih;have HN:=hQ hN;have HSZ:=hQ hsz;have HB:=hQ hd.lt;obtain⟨hx7,hll,hl5,hkt⟩:=Qcp.1 (show Qf6 (.mk t.kind t.text t.leads t.kids)=true from by rw[Tr.eta];exact hti);have HX7:=hQ hx7;have HLL:=hQ hll;have HL5:=hQ hl5;have HKT:=hQ hkt;have HKL:=hQ (show t.kids.length<=1000 from by have:=Qa0 t.kids;rw[Qa5]at hsz;omega);obtain⟨e1,e2,e3,e4⟩:=h.kl;have HT:=hQ h;obtain⟨vk,vx,vla,vll,vlc,vka,vkl,vkc⟩:=v;simp only at e1 e2 e3 e4;subst e1 e2 e4;have HW0:=hQ (((xC w.heap.size w).alloc (xA _) (trO ⟨vk,t.text,vla,t.leads.length,vlc,vka,t.kids.length,vkc⟩)).alloc (by rw[xI];omega) (.cells #[.int .i64 0,.string ⟨#[]⟩,.slice none 0 0,.slice none 0 0] 25));have HX:=hQ (show((w.alloc (trO ⟨vk,t.text,vla,t.leads.length,vlc,vka,t.kids.length,vkc⟩)).alloc (.cells #[.int .i64 0,.string ⟨#[]⟩,.slice none 0 0,.slice none 0 0] 25)).heap[w.heap.size]? = some (trO ⟨vk,t.text,vla,t.leads.length,vlc,vka,t.kids.length,vkc⟩) from(((xC (w.alloc (trO ⟨vk,t.text,vla,t.leads.length,vlc,vka,t.kids.length,vkc⟩)).heap.size _).alloc (xA _) _).block w.heap.size (by simp)).trans (xH w _));have HR:=hQ (show((w.alloc (trO ⟨vk,t.text,vla,t.leads.length,vlc,vka,t.kids.length,vkc⟩)).alloc (.cells #[.int .i64 0,.string ⟨#[]⟩,.slice none 0 0,.slice none 0 0] 25)).heap[w.heap.size+1]? = some (.cells #[.int .i64 0,.string ⟨#[]⟩,.slice none 0 0,.slice none 0 0] 25 (0,0)) from by rw[<-xI w (trO ⟨vk,t.text,vla,t.leads.length,vlc,vka,t.kids.length,vkc⟩)];exact xH _ _);have HZ0:=hQ (show((w.alloc (trO ⟨vk,t.text,vla,t.leads.length,vlc,vka,t.kids.length,vkc⟩)).alloc (.cells #[.int .i64 0,.string ⟨#[]⟩,.slice none 0 0,.slice none 0 0] 25)).heap.size=w.heap.size+2 from by simp);have HD0:=hQ (hd.keep HW0.out);have HR0:=hQ (Rest1.below (g:=B) HW0.out);have HT0:=hQ (HT.out.keep HW0.out);obtain⟨it,hit,ht0,ht1,ht2⟩:=info_parts Qcm;obtain⟨is,his,s0,s1,s2⟩:=info_parts Qdl;clear ih hN h hd hti hsz hx7 hll hl5 hkt e3;go_enter func68,ntmps68;go_upto_region 1 with fail
  have hx:((w.alloc (.cells #[.int .i64 vk,.string t.text,.slice vla t.leads.length vlc,.slice vka t.kids.length vkc] 25)).alloc (.cells #[.int .i64 0,.string ⟨#[]⟩,.slice none 0 0,.slice none 0 0] 25)).heap[w.heap.size]? = some (trO ⟨vk,t.text,vla,t.leads.length,vlc,vka,t.kids.length,vkc⟩):=HX.out;have hr:((w.alloc (.cells #[.int .i64 vk,.string t.text,.slice vla t.leads.length vlc,.slice vka t.kids.length vkc] 25)).alloc (.cells #[.int .i64 0,.string ⟨#[]⟩,.slice none 0 0,.slice none 0 0] 25)).heap[w.heap.size+1]? = some (.cells #[.int .i64 0,.string ⟨#[]⟩,.slice none 0 0,.slice none 0 0] 25 (0,0)):=HR.out;have hz0:((w.alloc (.cells #[.int .i64 vk,.string t.text,.slice vla t.leads.length vlc,.slice vka t.kids.length vkc] 25)).alloc (.cells #[.int .i64 0,.string ⟨#[]⟩,.slice none 0 0,.slice none 0 0] 25)).heap.size=w.heap.size+2:=HZ0.out;have hd0:DiceAt B ((w.alloc (.cells #[.int .i64 vk,.string t.text,.slice vla t.leads.length vlc,.slice vka t.kids.length vkc] 25)).alloc (.cells #[.int .i64 0,.string ⟨#[]⟩,.slice none 0 0,.slice none 0 0] 25)):=HD0.out;have hr0:Rest1 B w ((w.alloc (.cells #[.int .i64 vk,.string t.text,.slice vla t.leads.length vlc,.slice vka t.kids.length vkc] 25)).alloc (.cells #[.int .i64 0,.string ⟨#[]⟩,.slice none 0 0,.slice none 0 0] 25)):=HR0.out;have ht0':TrAt (fun b=>b<w.heap.size/\b≠B) ((w.alloc (.cells #[.int .i64 vk,.string t.text,.slice vla t.leads.length vlc,.slice vka t.kids.length vkc] 25)).alloc (.cells #[.int .i64 0,.string ⟨#[]⟩,.slice none 0 0,.slice none 0 0] 25)) t ⟨vk,t.text,vla,t.leads.length,vlc,vka,t.kids.length,vkc⟩:=HT0.out;clear HX HR HZ0 HD0 HR0 HT0 HW0;generalize ((w.alloc (.cells #[.int .i64 vk,.string t.text,.slice vla t.leads.length vlc,.slice vka t.kids.length vkc] 25)).alloc (.cells #[.int .i64 0,.string ⟨#[]⟩,.slice none 0 0,.slice none 0 0] 25))=W at hx hr hz0 hd0 hr0 ht0' |-;have HX:=hQ hx;have HR:=hQ hr;have HZ0:=hQ hz0;have HD0:=hQ hd0;have HR0:=hQ hr0;have HT0:=hQ ht0';clear hz0 hd0 hr0 ht0' hr;have k2:W.cell? ⟨w.heap.size,2,none⟩=some (.slice vla t.leads.length vlc):=Qab hx 2 _ rfl;have kl:w.heap.size<W.heap.size:=Qaa hx;have kf:∀ o,W.frozen? ⟨w.heap.size,o,none⟩=false:=fun o=>xL hx _
  clear hx
  go_cut [10] (fun _ wx=>Ls1C B vk t.text t.leads.length vka t.kids.length vkc w wx)
  case first =>
   by_cases hq:t.leads.length=0
   ·have HQ:=hQ hq;clear hq;go_wp2_with (at_builtin;refine Qfn rfl _ _ 23 rfl 9 is underlying23 his (ad:=⟨W.heap.size,0,none⟩) (n:=0) (cap:=0) rfl (xA _) (A:=vla) (m:=t.leads.length) (c:=vlc) HQ.out rfl ?_)
    go_meet;have hh:=Zhv (la':=some ⟨W.heap.size,0,none⟩) (lc':=0) HQ.out HB.out HR0.out HD0.out HX.out HR.out (.cells #[] 9);rw[HQ.out]at hh |-;exact⟨_,_,hh⟩
   ·obtain⟨lb,lo,hla,hcs⟩:=HT0.out.strsIn.vals (by show 0<t.leads.length;omega);have hla':vla=some ⟨lb,lo,none⟩:=hla;subst hla';have HW1:=hQ ((xC W.heap.size W).alloc (xA _) (.cells #[] 9));have HN1:=hQ (Zk0 hcs HW1.out);have HQ0:=hQ (show 0<t.leads.length from by omega);have HM1:=hQ (show 0+t.leads.length<=maxLen from by have:=HLL.out;have:=HKL.out;unfold maxLen;omega);have HM2:=hQ (show(0+t.leads.length)*16<=140737488355328 from by have:=HLL.out;have:=HKL.out;omega);have HM3:=hQ (show W.heap.size<=(W.alloc (.cells #[] 9)).heap.size from HW1.out.size);have HON:=hQ (Qnf t.leads);clear hla hcs hq;go_wp2_with (at_builtin;refine wpList_append_lies _ rfl _ _ 23 rfl W.heap.size 9 is _ 1 16 underlying23 his s0 s1 s2 rfl (by decide) (.slice (some ⟨W.heap.size,0,none⟩) 0 0) 0 [] rfl (Qla W _) ⟨lb,lo,none⟩ t.leads.length vlc (t.leads.map Value.string) rfl (by rw[List.length_map,Nat.mul_one]) HN1.out HON.out HQ0.out HM1.out HM2.out HM3.out _ rfl ?_;intro g cap w5 hown hgr _ hlt;have hx5:=(show w5.heap[w.heap.size]? = _ from((HW1.out.grown hgr HM3.out (fun k hk=>by simp[Value.ownBlock]at hk;omega)).block w.heap.size (Qaa HX.out)).trans HX.out);have HO5:=hQ hown;have HG5:=hQ hgr;clear k2 kl kf hown hgr hlt;simp only[Nat.zero_add];have k2:w5.cell? ⟨w.heap.size,2,none⟩=some (.slice (some ⟨lb,lo,none⟩) t.leads.length vlc):=Qab hx5 2 _ rfl;have kl:w.heap.size<w5.heap.size:=Qaa hx5;have kf:∀ o,w5.frozen? ⟨w.heap.size,o,none⟩=false:=fun o=>xL hx5 _;clear hx5)
    go_meet;have ho:=HO5.out;simp only[Nat.zero_add,xU]at ho;exact⟨_,_,Zhw HB.out HZ0.out HR0.out HD0.out HX.out HR.out rfl HL5.out ho HG5.out⟩
  case rest =>
   obtain⟨w3,hww⟩:∃ w',w'=wc:=⟨_,rfl⟩;subst hww;obtain⟨la,lc,h3⟩:=hcut;have H3:=hQ h3;clear h3 k2 kl kf;go_wp2
   go_loopw [5] (fun i wr=>∃ j:Nat,i = .int .i64 j/\j<=t.leads.length/\Ls1 B (⟨vk,t.text,la,t.leads.length,lc,vka,t.kids.length,vkc⟩:TV) w wr) (fun i _=>t.leads.length-(intOf i).toNat)
   case atStart=>exact⟨0,rfl,xZ _,H3.out⟩
   case round =>
    obtain⟨j,rfl,hj,h1⟩:=hrel;have H1:=hQ h1;clear h1;have hq1:(t.leads.length:Int)<=1006:=by have:=HLL.out;have:=HKL.out;omega
    by_cases hlt:j<t.leads.length
    ·have HLT:=hQ hlt;have k0:wr.cell? ⟨w.heap.size,0,none⟩=some (.int .i64 vk):=Qab H1.out.box 0 _ rfl;have k1:wr.cell? ⟨w.heap.size,1,none⟩=some (.string t.text):=Qab H1.out.box 1 _ rfl;have k2:wr.cell? ⟨w.heap.size,2,none⟩=some (.slice la t.leads.length lc):=Qab H1.out.box 2 _ rfl;have k3:wr.cell? ⟨w.heap.size,3,none⟩=some (.slice vka t.kids.length vkc):=Qab H1.out.box 3 _ rfl;have kl:w.heap.size<wr.heap.size:=Qaa H1.out.box;have kf:∀ o,wr.frozen? ⟨w.heap.size,o,none⟩=false:=fun o=>xL H1.out.box _
     obtain⟨g,hla,hg1,_,_,_⟩:=H1.out.ld.at hlt;have hla':la=some ⟨g,0,none⟩:=hla;subst hla';have HG1:=hQ hg1;clear hla hg1;have hj0:(0:Int)<=(j:Int):=by omega
     have hj1:(j:Int)<(t.leads.length:Int):=by omega
     go_wp2_with fail;go_at_call 42;refine(Qci B 9 _ H1.out.dice (by decide) (by decide)).mono ?_;rintro e w5⟨r,rfl,r0,r1,hrest,hd1⟩;have H5:=hQ (H1.out.step HB.out hrest hd1);clear hrest hd1 k0 k1 k2 k3 kl kf;have k0:w5.cell? ⟨w.heap.size,0,none⟩=some (.int .i64 vk):=Qab H5.out.box 0 _ rfl;have k1:w5.cell? ⟨w.heap.size,1,none⟩=some (.string t.text):=Qab H5.out.box 1 _ rfl;have k2:w5.cell? ⟨w.heap.size,2,none⟩=some (.slice (some ⟨g,0,none⟩) t.leads.length lc):=Qab H5.out.box 2 _ rfl;have k3:w5.cell? ⟨w.heap.size,3,none⟩=some (.slice vka t.kids.length vkc):=Qab H5.out.box 3 _ rfl;have kl:w.heap.size<w5.heap.size:=Qaa H5.out.box;have kf:∀ o,w5.frozen? ⟨w.heap.size,o,none⟩=false:=fun o=>xL H5.out.box _
     by_cases hr1:r=1
     ·subst hr1;have ng1:g≠w.heap.size:=by have:=HG1.out;omega
      have ng2:w.heap.size≠g:=fun e=>ng1 e.symm
      go_wp2_with fail
      go_region_held3 (fun w'=>w'.cell? ⟨w.heap.size,2,none⟩=some (.slice (some ⟨g,0,none⟩) t.leads.length lc)) (first | with_reducible exact k2 | go_keep) (first
       | (go_simp;go_at_call 99;refine(Zem B 4 [(⟨#[32,35,32,99,10]⟩:yD),⟨#[32,32]⟩,⟨#[10,9]⟩,⟨#[35,10]⟩] _ w5 H5.out.dice rfl rfl (by decide) (by decide) (by decide)).mono ?_;rintro e w6⟨s,rfl,hs,hrest6,hd6⟩;have HS6:=hQ hs;have H6:=hQ (H5.out.step HB.out hrest6 hd6);obtain⟨g6,hla6,_,hgl6,hgf6,p6,hp6⟩:=H6.out.ld.at HLT.out;injection hla6 with hla6;injection hla6 with hla6 _ _;subst hla6;clear hs hrest6 hd6 k0 k1 k2 k3 kl kf;have k2:w6.cell? ⟨w.heap.size,2,none⟩=some (.slice (some ⟨g,0,none⟩) t.leads.length lc):=Qab H6.out.box 2 _ rfl;have kl:w.heap.size<w6.heap.size:=Qaa H6.out.box;have kf:∀ o,w6.frozen? ⟨w.heap.size,o,none⟩=false:=fun o=>xL H6.out.box _)
       | fail)
      all_goals
       go_wp2;go_roundw
       case measure=>first | (simp[intOf];done) | (simp[intOf];omega)
       case rel=>exact⟨j+1,by go_num,by omega,H6.out.put HB.out rfl HG1.out HLT.out HS6.out⟩
     ·have hr2:decide (r=1)=false:=xR hr1;have hr3:(r==1)=false:=by simpa using hr1
      go_wp2;go_roundw
      case measure=>first | (simp[intOf];done) | (simp[intOf];omega)
      case rel=>exact⟨j+1,by go_num,by omega,H5.out⟩
    ·obtain rfl:j=t.leads.length:=by omega
     have k0:wr.cell? ⟨w.heap.size,0,none⟩=some (.int .i64 vk):=Qab H1.out.box 0 _ rfl;have k1:wr.cell? ⟨w.heap.size,1,none⟩=some (.string t.text):=Qab H1.out.box 1 _ rfl;have k2:wr.cell? ⟨w.heap.size,2,none⟩=some (.slice la t.leads.length lc):=Qab H1.out.box 2 _ rfl;have k3:wr.cell? ⟨w.heap.size,3,none⟩=some (.slice vka t.kids.length vkc):=Qab H1.out.box 3 _ rfl;have kl:w.heap.size<wr.heap.size:=Qaa H1.out.box;have kf:∀ o,wr.frozen? ⟨w.heap.size,o,none⟩=false:=fun o=>xL H1.out.box _
     go_upto_region 7 with fail
     go_cut [32] (fun _ wx=>Ls2C B vk t.text la t.leads.length lc (fun b=>b<w.heap.size/\b≠B) t w wx)
     case first =>
      by_cases hn:t.kids.length=0
      ·have HNZ:=hQ hn;clear hn;go_wp2_with (at_builtin;refine Qfn rfl _ _ 22 rfl 25 it underlying22 hit (ad:=⟨wr.heap.size,0,none⟩) (n:=0) (cap:=0) rfl (xA _) (A:=vka) (m:=t.kids.length) (c:=vkc) HNZ.out rfl ?_)
       go_meet;have hh:=(H1.out.kids HB.out (some ⟨wr.heap.size,0,none⟩) t.kids.length 0 (xC _ _));have hk:=hh.step HB.out (Rest1.below ((xC _ _).alloc (xA _) (.cells #[] 25))) (hh.dice.keep ((xC _ _).alloc (xA _) (.cells #[] 25)));rw[HNZ.out]at hk;exact⟨some ⟨wr.heap.size,0,none⟩,0,by rw[HNZ.out];exact hk,fun h0=>absurd h0 (by rw[HNZ.out];exact Nat.lt_irrefl 0)⟩
      ·obtain⟨us,hul,hus,hucs⟩:=KidsIn.vals (TrAt.move (w':=wr) (S':=(fun b=>b<w.heap.size/\b≠B)) (fun _ h=>h) (fun b hb _=>H1.out.rest.block b hb.1 hb.2) _ _ HT.out);obtain⟨kb,ko,hka,hcs⟩:=hucs (by omega);have hka':vka=some ⟨kb,ko,none⟩:=hka;subst hka';have HW1:=hQ ((xC wr.heap.size wr).alloc (xA _) (.cells #[] 25));have HN1:=hQ (Zk0 hcs HW1.out);have HQ0:=hQ (show 0<t.kids.length from by omega);have HM1:=hQ (show 0+t.kids.length<=maxLen from by have:=HKL.out;unfold maxLen;omega);have HM2:=hQ (show(0+t.kids.length)*72<=140737488355328 from by have:=HKL.out;omega);have HM3:=hQ (show wr.heap.size<=(wr.alloc (.cells #[] 25)).heap.size from HW1.out.size);have HON:=hQ (Qdk us);have HUL:=hQ hul;have HUS:=hQ hus;clear hka hcs hn hul hus hucs k0 k1 k2;go_wp2_with (at_builtin;refine wpList_append_lies _ rfl _ _ 22 rfl wr.heap.size 25 it _ 4 72 underlying22 hit ht0 ht1 ht2 rfl (by decide) (.slice (some ⟨wr.heap.size,0,none⟩) 0 0) 0 [] rfl (Qs2 wr _) ⟨kb,ko,none⟩ t.kids.length vkc (Qag us) rfl (by rw[Qd6,HUL.out]) HN1.out HON.out HQ0.out HM1.out HM2.out HM3.out _ rfl ?_;intro g cap w5 hown hgr _ hlt;have HB5:=hQ (show Below wr.heap.size wr w5 from HW1.out.grown hgr HM3.out (fun k hk=>by simp[Value.ownBlock]at hk;omega));have hx5:=(HB5.out.block w.heap.size (Qaa H1.out.box)).trans H1.out.box;have HO5:=hQ hown;clear k3 kl kf hown hgr hlt;simp only[Nat.zero_add];have k3:w5.cell? ⟨w.heap.size,3,none⟩=some (.slice (some ⟨kb,ko,none⟩) t.kids.length vkc):=Qab hx5 3 _ rfl;have kl:w.heap.size<w5.heap.size:=Qaa hx5;have kf:∀ o,w5.frozen? ⟨w.heap.size,o,none⟩=false:=fun o=>xL hx5 _;clear hx5)
       go_meet;have ho:=HO5.out;simp only[Nat.zero_add,xU]at ho;obtain⟨hc1,hc2⟩:=Ls3.start HB.out H1.out rfl HQ0.out HB5.out ho HUL.out HUS.out;exact⟨_,_,hc2.one,fun _=>⟨hc1,g,us,rfl,hc2⟩⟩
     case rest =>
      obtain⟨w4,hww⟩:∃ w',w'=wc:=⟨_,rfl⟩;subst hww;obtain⟨ka,kc,h4,hs4⟩:=Ls2C.start hcut;have H4:=hQ h4;have HS4:=hQ hs4;clear h4 hs4 hcut k0 k1 k2 k3 kl kf;go_wp2
      go_loopw [6] (fun i wx=>LkR B vk t.text la t.leads.length lc ka kc (fun b=>b<w.heap.size/\b≠B) t w i wx) (fun i _=>t.kids.length-(intOf i).toNat)
      case atStart=>exact HS4.out
      case round =>
       obtain⟨j,rfl,hj,hd⟩:=hrel;have hn1:(t.kids.length:Int)<=1000:=by have:=HKL.out;omega
       rcases hd with⟨hn,h1⟩|⟨hc,gk,ks,vs,hka,h3⟩
       ·have HNZ:=hQ hn;have HZ:=hQ h1;obtain rfl:j=0:=by omega
        have hn2:¬ 0<t.kids.length:=by omega
        obtain⟨x0,x1,x2,x3,xl,xf⟩:=Qah HZ.out.res;have k0:wr.cell? ⟨w.heap.size,0,none⟩=some (.int .i64 vk):=Qab HZ.out.box 0 _ rfl;have k1:wr.cell? ⟨w.heap.size,1,none⟩=some (.string t.text):=Qab HZ.out.box 1 _ rfl;have k2:wr.cell? ⟨w.heap.size,2,none⟩=some (.slice la t.leads.length lc):=Qab HZ.out.box 2 _ rfl;have k3:wr.cell? ⟨w.heap.size,3,none⟩=some (.slice ka t.kids.length kc):=Qab HZ.out.box 3 _ rfl;have kl:w.heap.size<wr.heap.size:=Qaa HZ.out.box;have kf:∀ o,wr.frozen? ⟨w.heap.size,o,none⟩=false:=fun o=>xL HZ.out.box _
        clear hn h1;go_wp2;refine bodyPost_ret (v:=.agg #[.int .i64 vk,.string t.text,.slice la t.leads.length lc,.slice ka t.kids.length kc]) (by simp[results,results68,go_sem, *]) rfl ?_;have hz:=HZ.out;rw[HNZ.out]at hz |-;exact hz.made HX7.out (by have:=HLL.out;have:=HNZ.out;omega) (xA _) HB.out
       ·subst hka;have H3:=hQ h3;have HC:=hQ hc;clear h3 hc;have k0:wr.cell? ⟨w.heap.size,0,none⟩=some (.int .i64 vk):=Qab H3.out.one.box 0 _ rfl;have k1:wr.cell? ⟨w.heap.size,1,none⟩=some (.string t.text):=Qab H3.out.one.box 1 _ rfl;have k2:wr.cell? ⟨w.heap.size,2,none⟩=some (.slice la t.leads.length lc):=Qab H3.out.one.box 2 _ rfl;have k3:wr.cell? ⟨w.heap.size,3,none⟩=some (.slice (some ⟨gk,0,none⟩) t.kids.length kc):=Qab H3.out.one.box 3 _ rfl;have kl:w.heap.size<wr.heap.size:=Qaa H3.out.one.box;have kf:∀ o,wr.frozen? ⟨w.heap.size,o,none⟩=false:=fun o=>xL H3.out.one.box _
        by_cases hlt:j<t.kids.length
        ·obtain⟨k,hk⟩:∃ k,t.kids[j]? = some k:=⟨_,xF hlt⟩;obtain⟨u,hu⟩:∃ u,vs[j]? = some u:=⟨_,xF (by rw[H3.out.vlen];exact hlt)⟩;obtain⟨cs,hcs,hrow⟩:=H3.out.row;obtain⟨c0,c1,c2,c3⟩:=RowIs.at hcs hrow hu;have cl:=Qaa hcs;have HK:=hQ hk;have GC0:=hQ c0;have GC1:=hQ c1;have GC2:=hQ c2;have GC3:=hQ c3;have HCS:=hQ hcs;have HNK:=hQ (show SizeOf.sizeOf k<=N from by have:=Qar hk;have:=HN.out;omega);have HTIK:=hQ (Qnx t.kids j k HKT.out hk);have HSZK:=hQ (xQ (Qbi hk) HSZ.out);have HTK:=hQ (show TrAt (fun b=>b<wr.drew.heap.size/\b≠B) wr.drew k u from TrAt.move (w':=wr.drew) (fun b hb=>⟨xE hb.1 H3.out.one.rest.size,hb.2⟩) (fun b hb _=>H3.out.one.rest.block b hb.1 hb.2) _ _ (H3.out.todo j k u (xA _) hk hu));have hj0:(0:Int)<=(j:Int):=by omega
         have hj1:(j:Int)<(t.kids.length:Int):=by omega
         have hgk:=H3.out.glo;have gn1:gk≠w.heap.size:=by omega
         have gn2:w.heap.size≠gk:=by omega
         have hj2:(j:Int)+1<=1001:=by omega
         clear hk hu hcs hrow hgk;go_wp2_with fail
         go_region_law (first
          | (go_simp;go_at_call 68;refine(HIH.out k u _ HNK.out HTK.out H3.out.one.dice.drew HTIK.out HSZK.out).mono ?_;rintro e w5⟨k',y,rfl,hty0,hsz',hti',hrest0,hd5,_⟩;have hrest:=hrest0.ofDrew;have HTY:=hQ (show TrAt (fun b=>wr.heap.size<=b/\b<w5.heap.size) w5 k' y from hty0);have HSZ':=hQ hsz';have HTI':=hQ hti';have HR5:=hQ hrest;have HD5:=hQ hd5;have HX5:=hQ ((hrest.block w.heap.size (Qaa H3.out.one.box) (by have:=HB.out;omega)).trans H3.out.one.box);have HC5:=hQ ((hrest.block gk (Qaa HCS.out) (by have:=HB.out;have:=H3.out.glo;omega)).trans HCS.out);clear hty0 hsz' hti' hrest0 hrest hd5 k0 k1 k2 k3 kl kf c0 c1 c2 c3 cl;have k3:w5.cell? ⟨w.heap.size,3,none⟩=some (.slice (some ⟨gk,0,none⟩) t.kids.length kc):=Qab HX5.out 3 _ rfl;have kl:w.heap.size<w5.heap.size:=Qaa HX5.out;have kf:∀ o,w5.frozen? ⟨w.heap.size,o,none⟩=false:=fun o=>xL HX5.out _;have c0:=(xJ (w:=wr) (a:=⟨gk,j*4,none⟩) (HC5.out.trans HCS.out.symm)).trans GC0.out;have c1:=(xJ (w:=wr) (a:=⟨gk,j*4+1,none⟩) (HC5.out.trans HCS.out.symm)).trans GC1.out;have c2:=(xJ (w:=wr) (a:=⟨gk,j*4+2,none⟩) (HC5.out.trans HCS.out.symm)).trans GC2.out;have c3:=(xJ (w:=wr) (a:=⟨gk,j*4+3,none⟩) (HC5.out.trans HCS.out.symm)).trans GC3.out;have cl:gk<w5.heap.size:=Qaa HC5.out;have cf:∀ o,w5.frozen? ⟨gk,o,none⟩=false:=fun o=>xL HC5.out _)
          | fail)
         all_goals
          go_wp2;go_roundw
          case measure=>first | (simp[intOf];done) | (simp[intOf];omega)
          case rel=>exact⟨j+1,by go_num,by omega,.inr ⟨HC.out,gk,_,_,rfl,H3.out.next HB.out HK.out HR5.out HD5.out HTY.out HSZ'.out HTI'.out⟩⟩
        ·obtain rfl:j=t.kids.length:=by omega
         obtain⟨x0,x1,x2,x3,xl,xf⟩:=Qah H3.out.one.res;go_wp2;refine bodyPost_ret (v:=.agg #[.int .i64 vk,.string t.text,.slice la t.leads.length lc,.slice (some ⟨gk,0,none⟩) t.kids.length kc]) (by simp[results,results68,go_sem, *]) rfl ?_;exact H3.out.made rfl HX7.out HLL.out HC.out (xA _) HB.out
end Go.Proofs.YtfjpemdejoejbaaGreat
