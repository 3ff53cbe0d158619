/- Part 49 -/
import Derived.Test.YtfjpemdejoejbaaGreatSg39
import Derived.Test.YtfjpemdejoejbaaGreatSg46
set_option maxRecDepth 100000
set_option maxHeartbeats 4000000
namespace Go.Proofs.YtfjpemdejoejbaaGreat
open Go.RowKit Go.Shelf
theorem Qri (w:World) (T:TypeId):(w.alloc (.cells #[] T)).ownsRow w.heap.size T 4 (.slice (some ⟨w.heap.size,0,none⟩) 0 0) 0 [] :=
 ⟨rfl,.inr ⟨w.heap.size,0,#[],rfl,xA _,xH w _,xA _,xZ _,rfl,rfl⟩⟩
theorem Qkj {w:World} {B n g c:Nat} {T:TypeId} {us:List TV} (h:w.ownsRow B T 4 (.slice (some ⟨g,0,none⟩) n c) n (Qag us)) (hn:0<n):B≤g∧n≤c∧∃ cur,w.heap[g]? = some (.cells cur T (0,0))∧RowIs cur us:=by
 rcases h.2 with ⟨_,h0⟩|⟨g',cap,cur,hv,hb,hh,hnc,hm,hsz,htk⟩
 ·omega
 ·injection hv with e1 e2 e3;injection e1 with e1;injection e1 with e1;subst e1 e3;refine ⟨hb,hnc,cur,hh,fun i v hv=>?_⟩;obtain ⟨q0,q1,q2,q3⟩:=Qef us i v hv
  have hget:∀ (o:Nat) (x:Value),(Qag us)[o]? = some x→cur[o]? = some x:=fun o x hx=>by
   rw [←htk] at hx
   have hlt:o<n*4:=by
    have:=(xP.1 hx).1
    rw [List.length_take] at this;omega
   rw [List.getElem?_take_of_lt hlt] at hx;rw [←Array.getElem?_toList];exact hx
  exact ⟨hget _ _ q0,hget _ _ q1,hget _ _ q2,hget _ _ q3⟩
theorem Qkk (w:World) (T:TypeId):(w.alloc (.cells #[] T)).ownsRow w.heap.size T 1 (.slice (some ⟨w.heap.size,0,none⟩) 0 0) 0 [] :=
 ⟨rfl,.inr ⟨w.heap.size,0,#[],rfl,xA _,xH w _,xA _,xZ _,rfl,rfl⟩⟩
theorem Zhc {w:World} {b off:Nat} {xs:List Value} (h:∀ (j:Nat) (x:Value),xs[j]? = some x→w.cell? ⟨b,off+j,none⟩=some x) {w':World} (hb:Below w.heap.size w w'):∀ (j:Nat) (u:Value),xs[j]? = some u→w'.cell? ((⟨b,off,none⟩:Addr).add j)=some u:=fun j u hu=>by
 rw [show ((⟨b,off,none⟩:Addr).add j)=⟨b,off+j,none⟩ from by unfold Addr.add;split <;> simp_all];have h1:=h j u hu;exact (xJ (w:=w) (a:=⟨b,off+j,none⟩) (hb.block b (xK w _ h1))).trans h1
def LdS (lo:Nat) (la:Option Addr) (q:Nat) (wr:World):Prop:=∃ ls:List ByteArray,ls.length=q∧(∀ y∈ls,y.size≤5)∧(0<q→∃ g cs,la=some ⟨g,0,none⟩∧wr.heap[g]? = some (.cells cs 9 (0,0))∧lo≤g∧∀ (i:Nat) (s:ByteArray),ls[i]? = some s→cs[i]? = some (.string s))
theorem LdS.at {lo q i:Nat} {la:Option Addr} {wr:World} (h:LdS lo la q wr) (hi:i<q):∃ g,la=some ⟨g,0,none⟩∧lo≤g∧g<wr.heap.size∧(∀ o,wr.frozen? ⟨g,o,none⟩=false)∧∃ s,wr.cell? ⟨g,i,none⟩=some (.string s):=by
 obtain ⟨ls,h4,h5,h6⟩:=h;obtain ⟨g,cs,q1,q2,q3,q5⟩:=h6 (by omega);obtain ⟨s,hs⟩:∃ s,ls[i]? = some s:=⟨_,xF (by omega)⟩;exact ⟨g,q1,q3,Qaa q2,fun o=>xL q2 _,s,Qab q2 i _ (q5 i s hs)⟩
theorem LdS.put {lo q g i:Nat} {wr:World} {s:ByteArray} (h:LdS lo (some ⟨g,0,none⟩) q wr) (hi:i<q) (hs:s.size≤5):LdS lo (some ⟨g,0,none⟩) q (wr.setCell ⟨g,i,none⟩ (.string s)):=by
 obtain ⟨ls,h4,h5,h6⟩:=h;obtain ⟨g',cs,q1,q2,q3,q5⟩:=h6 (by omega);injection q1 with q1;injection q1 with q1 _ _;subst q1
 refine ⟨ls.set i s,by rw [List.length_set,h4],fun y hy=>?_,fun _=>⟨g,_,rfl,Qay q2 rfl,q3,fun j z hz=>?_⟩⟩
 ·rcases List.mem_or_eq_of_mem_set hy with h | h
  ·exact h5 y h
  ·rw [h];exact hs
 ·have hcs:i<cs.size:=by
   obtain ⟨z',hz'⟩:∃ z,ls[i]? = some z:=⟨_,xF (by omega)⟩;exact (Array.getElem?_eq_some_iff.1 (q5 i z' hz')).1
  by_cases hj:j=i
  ·subst hj;rw [List.getElem?_set_self (by omega)] at hz;injection hz with hz;subst hz;rw [Array.getElem?_setIfInBounds_self_of_lt hcs]
  ·rw [List.getElem?_set_ne (fun e=>hj e.symm)] at hz;rw [xY (fun e=>hj e.symm)];exact q5 j z hz
theorem LdS.other {lo q:Nat} {la:Option Addr} {wr w':World} (h:LdS lo la q wr) (hb:∀ b,lo≤b→b<wr.heap.size→(0<q∧la=some ⟨b,0,none⟩)→w'.heap[b]? = wr.heap[b]?):LdS lo la q w':=by
 obtain ⟨ls,h4,h5,h6⟩:=h;refine ⟨ls,h4,h5,fun hq=>?_⟩;obtain ⟨g,cs,q1,q2,q3,q4⟩:=h6 hq;exact ⟨g,cs,q1,(hb g q3 (Qaa q2) ⟨hq,q1⟩).trans q2,q3,q4⟩
theorem LdS.nil (lo:Nat) (la:Option Addr) (wr:World):LdS lo la 0 wr:=⟨[],rfl,fun y h=>by simp at h,fun h=>absurd h (by omega)⟩
structure Ls1 (B:Nat) (v:TV) (w wr:World):Prop where
 rest:Rest1 B w wr
 dice:DiceAt B wr
 box:wr.heap[w.heap.size]? = some (trO v)
 res:wr.heap[w.heap.size+1]? = some (.cells #[.int .i64 0,.string ⟨#[]⟩,.slice none 0 0,.slice none 0 0] 25 (0,0))
 ld:LdS (w.heap.size+2) v.la v.ll wr
 cap:v.ll≤v.lc
theorem Ls1.step {B:Nat} {v:TV} {w wr w':World} (h:Ls1 B v w wr) (hB:B<w.heap.size) (hr:Rest1 B wr w') (hd:DiceAt B w'):Ls1 B v w w' :=
 ⟨h.rest.trans hr,hd,(hr.block _ (Qaa h.box) (by omega)).trans h.box,(hr.block _ (Qaa h.res) (by omega)).trans h.res,h.ld.other fun b hb hl _=>hr.block b hl (by omega),h.cap⟩
theorem Ls1.put {B g i:Nat} {v:TV} {w wr:World} {s:ByteArray} (h:Ls1 B v w wr) (hB:B<w.heap.size) (hla:v.la=some ⟨g,0,none⟩) (hg:w.heap.size+2≤g) (hi:i<v.ll) (hs:s.size≤5):Ls1 B v w (wr.setCell ⟨g,i,none⟩ (.string s)):=by
 refine ⟨⟨h.rest.os,h.rest.tape,h.rest.output,by have:=h.rest.size;simpa [World.setCell] using this,fun k hk hne=>(Qao (by omega)).trans (h.rest.block k hk hne)⟩,h.dice.other fun k hk=>Qao (by omega),(Qao (by omega)).trans h.box,(Qao (by omega)).trans h.res,?_,h.cap⟩
 ·have:=h.ld
  rw [hla] at this ⊢;exact this.put hi hs
def Ls1C (B:Nat) (k:Int) (x:ByteArray) (q:Nat) (ka:Option Addr) (n c:Nat) (w wx:World):Prop:=∃ (la:Option Addr) (lc:Nat),Ls1 B ⟨k,x,la,q,lc,ka,n,c⟩ w wx
theorem Zeo {B:Nat} {k:Int} {x:ByteArray} {la la' ka:Option Addr} {lc lc' q n c:Nat} {w W:World} (hq:q=0) (hB:B<w.heap.size) (hr:Rest1 B w W) (hd:DiceAt B W) (hx:W.heap[w.heap.size]? = some (trO ⟨k,x,la,q,lc,ka,n,c⟩)) (hz:W.heap[w.heap.size+1]? = some (.cells #[.int .i64 0,.string ⟨#[]⟩,.slice none 0 0,.slice none 0 0] 25 (0,0))) (o:Obj) :
  Ls1 B ⟨k,x,la',q,lc',ka,n,c⟩ w ((W.setCell ⟨w.heap.size,2,none⟩ (.slice la' q lc')).alloc o):=by
 subst hq;have hb:Below (W.setCell ⟨w.heap.size,2,none⟩ (.slice la' 0 lc')).heap.size (W.setCell ⟨w.heap.size,2,none⟩ (.slice la' 0 lc')) ((W.setCell ⟨w.heap.size,2,none⟩ (.slice la' 0 lc')).alloc o):=(xC _ _).alloc (xA _) _;have hsz:(W.setCell ⟨w.heap.size,2,none⟩ (.slice la' 0 lc')).heap.size=W.heap.size:=by simp [World.setCell]
 have h1:Ls1 B ⟨k,x,la',0,lc',ka,n,c⟩ w (W.setCell ⟨w.heap.size,2,none⟩ (.slice la' 0 lc')):=⟨⟨hr.os,hr.tape,hr.output,by rw [hsz];exact hr.size,fun b hb hne=>(Qao (by omega)).trans (hr.block b hb hne)⟩,hd.other fun b hb=>Qao (by omega),Qay hx rfl,(Qao (by omega)).trans hz,LdS.nil _ _ _,xZ _⟩;exact h1.step hB (Rest1.below hb) (h1.dice.keep hb)
theorem Zep {B g:Nat} {k:Int} {x:ByteArray} {la ka:Option Addr} {lc cap q n c:Nat} {l:List ByteArray} {w W w5:World} {o:Obj} (hB:B<w.heap.size) (hs:W.heap.size=w.heap.size+2) (hr:Rest1 B w W) (hd:DiceAt B W) (hx:W.heap[w.heap.size]? = some (trO ⟨k,x,la,q,lc,ka,n,c⟩)) (hz:W.heap[w.heap.size+1]? = some (.cells #[.int .i64 0,.string ⟨#[]⟩,.slice none 0 0,.slice none 0 0] 25 (0,0)))
  (hl:l.length=q) (h5:∀ y∈l,y.size≤5) (ho:w5.ownsRow W.heap.size 9 1 (.slice (some ⟨g,0,none⟩) q cap) q (l.map Value.string)) (hg:(W.alloc o).grownBy w5 (some W.heap.size)) :
  Ls1 B ⟨k,x,some ⟨g,0,none⟩,q,cap,ka,n,c⟩ w (w5.setCell ⟨w.heap.size,2,none⟩ (.slice (some ⟨g,0,none⟩) q cap)):=by
 have hb5:Below W.heap.size W w5:=((xC W.heap.size W).alloc (xA _) o).grown hg (by rw [xI];omega) (fun k hk=>by injection hk with hk;omega);have hr5:=hr.trans (Rest1.below (g:=B) hb5);have hd5:=hd.keep hb5;have hx5:=(hb5.block _ (Qaa hx)).trans hx;have hz5:=(hb5.block _ (Qaa hz)).trans hz;have hsz:(w5.setCell ⟨w.heap.size,2,none⟩ (.slice (some ⟨g,0,none⟩) q cap)).heap.size=w5.heap.size:=by simp [World.setCell]
 refine ⟨⟨hr5.os,hr5.tape,hr5.output,by rw [hsz];exact hr5.size,fun b hb hne=>(Qao (by omega)).trans (hr5.block b hb hne)⟩,hd5.other fun b hb=>Qao (by omega),Qay hx5 rfl,(Qao (by omega)).trans hz5,⟨l,hl,h5,fun hq=>?_⟩,Qfj ho⟩;obtain ⟨g',cs,q1,q2,q3,q4⟩:=Zbi ho hl hq;exact ⟨g',cs,q1,(Qao (by omega)).trans q2,by omega,q4⟩
structure Ls3 (B:Nat) (v:TV) (gk:Nat) (S:Nat→Prop) (t:Tr) (j:Nat) (ks:List Tr) (vs:List TV) (w wr:World):Prop where
 one:Ls1 B v w wr
 la:0<v.ll→v.la≠some ⟨gk,0,none⟩
 glo:w.heap.size+2≤gk
 row:∃ cs,wr.heap[gk]? = some (.cells cs 25 (0,0))∧RowIs cs vs
 klen:ks.length=j
 vlen:vs.length=t.kids.length
 done:∀ (i:Nat) (k:Tr) (u:TV),ks[i]? = some k→vs[i]? = some u→TrAt (fun b=>gk<b∧b<wr.heap.size) wr k u
 todo:∀ (i:Nat) (k:Tr) (u:TV),j≤i→t.kids[i]? = some k→vs[i]? = some u→TrAt S w k u
 tiny:Qbm ks=true
 size:Qaq ks≤Qaq (t.kids.take j)
theorem Zbt {cs:Array Value} {vs:List TV} (h:RowIs cs vs) {j:Nat} (hj:j<vs.length) (y:TV):RowIs (Zeh cs (j*4) y) (vs.set j y):=RowIs.set h hj y
theorem Ls3.next {B gk j:Nat} {v:TV} {S:Nat→Prop} {t k':Tr} {ks:List Tr} {vs:List TV} {w wr w5:World} {k:Tr} {y:TV} (h:Ls3 B v gk S t j ks vs w wr) (hB:B<w.heap.size) (hk:t.kids[j]? = some k) (hr:Rest1 B wr w5) (hd:DiceAt B w5) (ht:TrAt (fun b=>wr.heap.size≤b∧b<w5.heap.size) w5 k' y) (hs:Qak k'≤Qak k) (hti:Qe6 k'=true) :
  Ls3 B v gk S t (j+1) (ks ++ [k']) (vs.set j y) w (Qq8 w5 gk (j*4) y):=by
 have hgk:=h.glo;have hlt:=(xP.1 hk).1;obtain ⟨cs,hc,hrow⟩:=h.row;have hgl:=Qaa hc;have hc5:=(hr.block gk hgl (by omega)).trans hc;have h1:=h.one.step hB hr hd;have hz:=Qiq w5 gk (j*4) y;have hs5:=hr.size
 refine ⟨⟨⟨h1.rest.os,h1.rest.tape,h1.rest.output,by rw [hz];exact h1.rest.size,fun k hk hne=>(Qcp (j*4) y (by omega)).trans (h1.rest.block k hk hne)⟩,hd.other fun k hk=>Qcp (j*4) y (by omega),(Qcp (j*4) y (by omega)).trans h1.box,(Qcp (j*4) y (by omega)).trans h1.res,h1.ld.other fun b hb hl hla=>Qcp (j*4) y (fun e=>?_),h1.cap⟩,h.la,hgk,⟨_,Qip (j*4) y hc5,Zbt hrow (by rw [h.vlen];exact hlt) y⟩,by rw [xB,h.klen];rfl,by rw [List.length_set,h.vlen],fun i k'' u hk'' hu=>?_,fun i k'' u hi hk'' hu=>?_,by rw [Qgz,h.tiny,Qbm,hti,Qbm];rfl,by rw [Qei,Qc0 hk,Qaq,Qaq];have:=h.size;omega⟩
 ·exact h.la hla.1 (by rw [hla.2,e])
 ·by_cases hi:i<ks.length
  ·rw [yB hi] at hk'';rw [List.getElem?_set_ne (by have:=h.klen;omega)] at hu;exact TrAt.move (fun b hb=>⟨hb.1,by rw [hz];omega⟩) (fun b hb hl=>(Qcp (j*4) y (by omega)).trans (hr.block b hl (by omega))) _ _ (h.done i k'' u hk'' hu)
  ·have hl:=(xP.1 hk'').1;rw [xB,List.length_singleton] at hl;obtain rfl:i=ks.length:=by omega
   rw [xX (xA _),Nat.sub_self] at hk'';have hkl:=h.klen;rw [hkl,List.getElem?_set_self (by rw [h.vlen];exact hlt)] at hu;injection hk'' with hk'';injection hu with hu;subst hk'' hu;exact TrAt.move (fun b hb=>⟨by omega,by rw [hz];exact hb.2⟩) (fun b hb _=>Qcp (j*4) y (by omega)) _ _ ht
 ·rw [List.getElem?_set_ne (by omega)] at hu;exact h.todo i k'' u (by omega) hk'' hu
theorem Ls3.made {B n gk:Nat} {kd:Int} {tx:ByteArray} {la:Option Addr} {q lc m kc:Nat} {S:Nat→Prop} {t:Tr} {ks:List Tr} {vs:List TV} {w wr:World} (h:Ls3 B ⟨kd,tx,la,q,lc,some ⟨gk,0,none⟩,m,kc⟩ gk S t m ks vs w wr) (hm:m=t.kids.length) (hx:szq tx≤7) (hq:q≤m+6) (hc:m≤kc) (hn:Qak t≤n) (hB:B<w.heap.size) :
  Qxe B n kd w (.returned (.agg #[.int .i64 kd,.string tx,.slice la q lc,.slice (some ⟨gk,0,none⟩) m kc])) (Qeg wr (w.heap.size+1) ⟨kd,tx,la,q,lc,some ⟨gk,0,none⟩,m,kc⟩):=by
 obtain ⟨ls,l1,l2,l3⟩:=h.one.ld;have hgk:=h.glo;obtain ⟨cs,hc0,hrow⟩:=h.row;have hz:=Qb3 wr (w.heap.size+1) ⟨kd,tx,la,q,lc,some ⟨gk,0,none⟩,m,kc⟩;have hk:∀ b,b≠w.heap.size+1→(Qeg wr (w.heap.size+1) ⟨kd,tx,la,q,lc,some ⟨gk,0,none⟩,m,kc⟩).heap[b]? = wr.heap[b]?:=fun b hb=>Qa1 _ hb
 refine ⟨.mk kd tx ls ks,⟨kd,tx,la,q,lc,some ⟨gk,0,none⟩,m,kc⟩,rfl,?_,by rw [Qak];have:=h.size;rw [hm,List.take_length] at this;rw [Qa7] at hn;omega,Qbz.2 ⟨hx,by rw [l1,h.klen];exact hq,l2,h.tiny⟩,Qe0 _ (by omega) h.one.rest,Qe1 _ h.one.dice (by omega),.inl rfl⟩;unfold TrAt
 refine ⟨rfl,rfl,l1.symm,h.klen.symm,fun hne=>?_,fun hne=>?_,h.one.cap,hc⟩
 ·obtain ⟨g,cg,q1,q2,q3,q5⟩:=l3 (by rw [←l1];exact List.length_pos_iff.2 hne);refine ⟨g,0,q1,⟨by omega,by rw [hz];exact Qaa q2⟩,fun i y hy=>?_⟩;rw [Nat.zero_add];exact (xJ (w:=wr) (a:=⟨g,i,none⟩) (hk g (by omega))).trans (Qab q2 i _ (q5 i y hy))
 ·refine ⟨gk,0,rfl,⟨by omega,by rw [hz];exact Qaa hc0⟩,TrsAt.of ks 0 fun i k hki=>?_⟩;have hi:=(xP.1 hki).1;obtain ⟨u,hu⟩:∃ u,vs[i]? = some u:=⟨_,xF (by rw [h.vlen,←hm,←h.klen];exact hi)⟩;obtain ⟨q0,q1,q2,q3⟩:=hrow i u hu;have hcc:∀ (o:Nat) (z:Value),cs[o]? = some z→(Qeg wr (w.heap.size+1) ⟨kd,tx,la,q,lc,some ⟨gk,0,none⟩,m,kc⟩).cell? ⟨gk,o,none⟩=some z:=fun o z hz=>(xJ (w:=wr) (a:=⟨gk,o,none⟩) (hk gk (by omega))).trans (Qab hc0 o _ hz)
  rw [Nat.zero_add];exact ⟨u,hcc _ _ q0,hcc _ _ q1,hcc _ _ q2,hcc _ _ q3,TrAt.move (fun b hb=>⟨by omega,by rw [hz];exact hb.2⟩) (fun b hb _=>hk b (by omega)) _ _ (h.done i k u hki hu)⟩
def Ls2C (B:Nat) (k:Int) (x:ByteArray) (la:Option Addr) (q lc:Nat) (S:Nat→Prop) (t:Tr) (w wx:World):Prop:=∃ (ka:Option Addr) (c:Nat),Ls1 B ⟨k,x,la,q,lc,ka,t.kids.length,c⟩ w wx∧(0<t.kids.length→t.kids.length≤c∧∃ gk vs,ka=some ⟨gk,0,none⟩∧Ls3 B ⟨k,x,la,q,lc,ka,t.kids.length,c⟩ gk S t 0 [] vs w wx)
theorem Ls1.kids {B:Nat} {k:Int} {x:ByteArray} {la ka:Option Addr} {q lc n c:Nat} {w wr:World} (h:Ls1 B ⟨k,x,la,q,lc,ka,n,c⟩ w wr) (hB:B<w.heap.size) (ka':Option Addr) (n' c':Nat) {w5:World} (hb:Below wr.heap.size wr w5):Ls1 B ⟨k,x,la,q,lc,ka',n',c'⟩ w (w5.setCell ⟨w.heap.size,3,none⟩ (.slice ka' n' c')):=by
 have h5:=h.step hB (Rest1.below (g:=B) hb) (h.dice.keep hb);have hsz:(w5.setCell ⟨w.heap.size,3,none⟩ (.slice ka' n' c')).heap.size=w5.heap.size:=by simp [World.setCell]
 exact ⟨⟨h5.rest.os,h5.rest.tape,h5.rest.output,by rw [hsz];exact h5.rest.size,fun b hb hne=>(Qao (by omega)).trans (h5.rest.block b hb hne)⟩,h5.dice.other fun b hb=>Qao (by omega),Qay h5.box rfl,(Qao (by omega)).trans h5.res,h5.ld.other fun b hb _ _=>Qao (by omega),h5.cap⟩
def LkR (B:Nat) (k:Int) (x:ByteArray) (la:Option Addr) (q lc:Nat) (ka:Option Addr) (c:Nat) (S:Nat→Prop) (t:Tr) (w:World) (i:Value) (wx:World):Prop:=∃ j:Nat,i = .int .i64 j∧j≤t.kids.length ∧
 ((t.kids.length=0∧Ls1 B ⟨k,x,la,q,lc,ka,t.kids.length,c⟩ w wx)∨(t.kids.length≤c∧∃ gk ks vs,ka=some ⟨gk,0,none⟩∧Ls3 B ⟨k,x,la,q,lc,ka,t.kids.length,c⟩ gk S t j ks vs w wx))
theorem Ls2C.start {B:Nat} {k:Int} {x:ByteArray} {la:Option Addr} {q lc:Nat} {S:Nat→Prop} {t:Tr} {w wx:World} (h:Ls2C B k x la q lc S t w wx):∃ (ka:Option Addr) (c:Nat),Ls1 B ⟨k,x,la,q,lc,ka,t.kids.length,c⟩ w wx∧LkR B k x la q lc ka c S t w (.int .i64 (0:Nat)) wx:=by
 obtain ⟨ka,c,h1,h2⟩:=h;refine ⟨ka,c,h1,0,rfl,xZ _,?_⟩
 by_cases hn:t.kids.length=0
 ·exact .inl ⟨hn,h1⟩
 ·obtain ⟨h3,gk,vs,h4,h5⟩:=h2 (by omega);exact .inr ⟨h3,gk,[],vs,h4,h5⟩
theorem Ls3.start {B gk cap n c:Nat} {k:Int} {x:ByteArray} {la ka:Option Addr} {q lc:Nat} {t:Tr} {us:List TV} {w wr w5:World} (hB:B<w.heap.size) (h:Ls1 B ⟨k,x,la,q,lc,ka,n,c⟩ w wr) (_hn:n=t.kids.length) (h0:0<n) (hb:Below wr.heap.size wr w5) (ho:w5.ownsRow wr.heap.size 25 4 (.slice (some ⟨gk,0,none⟩) n cap) n (Qag us)) (hul:us.length=t.kids.length)
  (hu:∀ (i:Nat) (k:Tr) (u:TV),t.kids[i]? = some k→us[i]? = some u→TrAt (fun b=>b<w.heap.size∧b≠B) wr k u):n≤cap∧Ls3 B ⟨k,x,la,q,lc,some ⟨gk,0,none⟩,n,cap⟩ gk (fun b=>b<w.heap.size∧b≠B) t 0 [] us w (w5.setCell ⟨w.heap.size,3,none⟩ (.slice (some ⟨gk,0,none⟩) n cap)):=by
 obtain ⟨r1,r2,cur,r3,r4⟩:=Qkj ho h0;have hws:=Qaa h.res;refine ⟨r2,h.kids hB _ _ _ hb,fun hq e=>?_,by omega,⟨cur,(Qao (by omega)).trans r3,r4⟩,rfl,hul,fun i k u hk=>by simp at hk,fun i k u _ hk hu'=>TrAt.move (fun _ h=>h) (fun b hb _=>(h.rest.block b hb.1 hb.2).symm) _ _ (hu i k u hk hu'),by rw [Qbm],by rw [List.take_zero];exact xA _⟩;obtain ⟨g',e',_,hl,_⟩:=h.ld.at hq;have e2:(some ⟨g',0,none⟩:Option Addr)=some ⟨gk,0,none⟩:=e'.symm.trans e;injection e2 with e2;injection e2 with e2 _ _;omega
theorem Ls1.made {B n:Nat} {kd:Int} {tx:ByteArray} {la ka:Option Addr} {q lc kc:Nat} {t:Tr} {w wr:World} (h:Ls1 B ⟨kd,tx,la,q,lc,ka,0,kc⟩ w wr) (hx:szq tx≤7) (hq:q≤6) (hn:Qak t≤n) (hB:B<w.heap.size) :
  Qxe B n kd w (.returned (.agg #[.int .i64 kd,.string tx,.slice la q lc,.slice ka 0 kc])) (Qeg wr (w.heap.size+1) ⟨kd,tx,la,q,lc,ka,0,kc⟩):=by
 obtain ⟨ls,l1,l2,l3⟩:=h.ld;have hz:=Qb3 wr (w.heap.size+1) ⟨kd,tx,la,q,lc,ka,0,kc⟩;refine ⟨.mk kd tx ls [],⟨kd,tx,la,q,lc,ka,0,kc⟩,rfl,?_,by rw [Qak,Qaq];rw [Qa7] at hn;omega,Qbz.2 ⟨hx,by rw [l1];exact hq,l2,by rw [Qbm]⟩,Qe0 _ (by omega) h.rest,Qe1 _ h.dice (by omega),.inl rfl⟩;unfold TrAt;refine ⟨rfl,rfl,l1.symm,rfl,fun hne=>?_,fun hne=>absurd rfl hne,h.cap,xZ _⟩;obtain ⟨g,cg,q1,q2,q3,q5⟩:=l3 (by rw [←l1];exact List.length_pos_iff.2 hne);refine ⟨g,0,q1,⟨by omega,by rw [hz];exact Qaa q2⟩,fun i y hy=>?_⟩;rw [Nat.zero_add];exact (xJ (w:=wr) (a:=⟨g,i,none⟩) (Qa1 (k:=g) _ (by omega))).trans (Qab q2 i _ (q5 i y hy))
end Go.Proofs.YtfjpemdejoejbaaGreat
