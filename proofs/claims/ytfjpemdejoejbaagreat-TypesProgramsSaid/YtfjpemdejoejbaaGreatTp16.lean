/- Part 16 -/
import Derived.Test.YtfjpemdejoejbaaGreatTp15
import Derived.RangeFuncNested
import Derived.RangeFuncBound
import Derived.RangeFuncCalls
import Derived.RangeFuncLeaves
import Derived.RangeFuncBox
import Derived.Shelf.Abstract
import Derived.OwnWalkIn
import Derived.TacticsInMore
import Derived.LoopNIn
import Derived.LoopIn
import Derived.Deep.DeepAppendRoom
import Derived.ArgAppend
set_option maxRecDepth 100000
set_option maxHeartbeats 4000000
namespace Go.Proofs.YtfjpemdejoejbaaGreat
open Go.Proofs.Tryz Go.RowKit Go.Shelf
attribute [local go_sem] Oper.semAt_some
theorem Qnj:(prog.info? 3).map (fun i=>(i.zero,i.size,i.bytes))=some (some (.int .i64 0),1,8):=by kernel_rfl
def IRow(w:World)(B:Nat)(v:Value)(p:List Int):Prop:=w.ownsRow B 3 1 v p.length (p.map (Value.int .i64))
theorem IRow.keep{w w':World}{B:Nat}{v:Value}{p:List Int}(h:IRow w B v p)(hb:Below w.heap.size w w'):IRow w' B v p:=by
 refine⟨h.1,?_⟩
 rcases h.2 with h0|⟨g,cap,cur,hv,hb',hh,hr⟩
 ·exact .inl h0
 ·exact .inr ⟨g,cap,cur,hv,hb',(hb.block g (Qaa hh)).trans hh,hr⟩
theorem IRow.ints{w:World}{B n c:Nat}{A:yE}{p:List Int}(h:IRow w B (.slice A n c) p):n=p.length/\Ql9 w A p:=by
 rcases h.2 with⟨hv,h0⟩|⟨g,cap,cur,hv,hb,hh,hnc,hm,hsz,htk⟩
 ·injection hv with e1 e2 e3;exact⟨by omega,fun hne=>absurd (List.eq_nil_of_length_eq_zero h0) hne⟩
 ·injection hv with e1 e2 e3;refine⟨e2,fun hne=>⟨g,0,e1,Qaa hh,fun i x hx=>?_⟩⟩;rw[Nat.zero_add,Lib.cell_of_heap hh];have hi:=(xP.1 hx).1;rw[<-Array.getElem?_toList];have h1:(p.map (Value.int .i64))[i]? = some (.int .i64 x):=by rw[List.getElem?_map,hx];rfl
  rw[<-htk,List.getElem?_take_of_lt (by omega)]at h1;exact h1
theorem Qoi(w:World)(d:Nat)(b off l c:Nat):(Op.equalIn (d+1) 35 (.slice (some ⟨b,off,none⟩) l c) (.slice none 0 0)).run prog w = .ok false w:=by
 simp[Op.equalIn,run_underlying underlying35]
theorem Qrz(w:World)(b off l c:Nat):(binOp .eql 35 (.slice (some ⟨b,off,none⟩) l c) (.slice none 0 0)).run prog w = .ok (.bool false) w:=by
 have h:(Op.equal 35 (.slice (some ⟨b,off,none⟩) l c) (.slice none 0 0)).run prog w = .ok false w:=Qoi w 9999 b off l c;simp[binOp,h]
theorem Qx5(A:yE)(c:Nat)(p:List Int)(w:World)(hA:Ql9 w A p)(h0:p≠[])(hl:p.length<=1000000) :
  Calls prog 77 #[.slice A p.length c] w fun e w'=>∃ v,e = .returned v/\IRow w' w.heap.size v p/\Below w.heap.size w w':=by
 obtain⟨b,off,rfl,hb,hc⟩:=hA h0
 have hpos:0<p.length:=by cases p with
  | nil=>exact absurd rfl h0
  | cons a r=>simp
 obtain⟨ii,hii,iz0,iz1,iz2⟩:=info_parts Qnj
 have HC:=hQ (show ∀ (j:Nat) (u:Value),(p.map (Value.int .i64))[j]? = some u->(w.alloc (.cells #[] 3)).cell? ((⟨b,off,none⟩:Addr).add j)=some u from fun j u hu=>by
  rw[List.getElem?_map,Option.map_eq_some_iff]at hu;obtain⟨x,hx,rfl⟩:=hu;have h2:=hc j x hx;rw[Za2];exact(xJ (w:=w) (a:=⟨b,off+j,none⟩) (Below.heap_alloc _ _ b hb)).trans h2)
 have HO:=hQ (show(w.alloc (.cells #[] 3)).ownsRow w.heap.size 3 1 (.slice (some ⟨w.heap.size,0,none⟩) 0 0) 0 [] from⟨rfl,.inr ⟨w.heap.size,0,#[],rfl,xA _,xH w _,xA _,xZ _,rfl,rfl⟩⟩);have HSZ:=hQ (show w.heap.size<=(w.alloc (.cells #[] 3)).heap.size from by rw[xI];omega);have HB:=hQ ((xC w.heap.size w).alloc (xA _) (.cells #[] 3));have HP:=hQ hpos;have hen:=fun w=>Qrz w b off p.length c
 clear hc hb h0 hpos hA;go_enter func77,ntmps77;go_wp2_with (at_builtin;refine wpList_append_lies _ rfl _ _ 35 rfl w.heap.size 3 ii _ 1 8 underlying35 hii iz0 iz1 iz2 rfl (by decide) (.slice (some ⟨w.heap.size,0,none⟩) 0 0) 0 [] rfl HO.out ⟨b,off,none⟩ p.length c (p.map (Value.int .i64)) rfl (by simp) HC.out (fun u hu=>by obtain⟨x,_,rfl⟩:=List.mem_map.1 hu;rfl) HP.out (by unfold maxLen;omega) (by omega) HSZ.out _ rfl ?_;intro g2 c2 w3 hown hgr _ hlt;simp only[Nat.zero_add,xU]at hown |-;have HR3:=hQ (show IRow w3 w.heap.size (.slice (some ⟨g2,0,none⟩) p.length c2) p from hown);have HB3:=hQ (HB.out.grown hgr HSZ.out (fun k hk=>by injection hk with hk;subst hk;exact xA _));clear hown hgr hlt)
 go_ret;exact⟨_,rfl,HR3.out,HB3.out⟩
theorem IRow.slice{w:World}{B:Nat}{v:Value}{p:List Int}(h:IRow w B v p):∃ A n c,v = .slice A n c:=by
 rcases h.2 with h0|⟨g,cap,cur,hv,_⟩
 ·exact⟨_,_,_,h0.1⟩
 ·exact⟨_,_,_,hv⟩
theorem Za5{x y:yD}(h:(x.toList==y.toList)=true):x=y:=by
 have h2:x.toList=y.toList:=by simpa using h
 rw[ByteArray.toList_eq,ByteArray.toList_eq]at h2;cases x;cases y
 simp only[ByteArray.mk.injEq];exact Array.toList_inj.1 h2
theorem Qvq{w:World}{B:Nat}{v:Value}{p:List Int}{a:Addr}(h:IRow w B v p)(ha:a.block<B)(u:Value):IRow (w.setCell a u) B v p:=by
 refine⟨h.1,?_⟩
 rcases h.2 with h0|⟨g,cap,cur,hv,hb',hh,hr⟩
 ·exact .inl h0
 ·exact .inr ⟨g,cap,cur,hv,hb',(heap_setCell_other w a g u (by omega)).trans hh,hr⟩
structure Keeps (P:Nat->Option Nat) (w w':World):Prop where
 os:w'.os=w.os
 tape:w'.tape=w.tape
 output:w'.output=w.output
 size:w.heap.size<=w'.heap.size
 block:∀ k,k<w.heap.size->P k=none->w'.heap[k]? = w.heap[k]?
 cells:∀ k n cur t,P k=some n->w.heap[k]? = some (.cells cur t (0,0))->∃ cur',w'.heap[k]? = some (.cells cur' t (0,0))/\cur'.size=cur.size/\cur'.toList.take n=cur.toList.take n
theorem Keeps.refl(P:Nat->Option Nat)(w:World):Keeps P w w:=⟨rfl,rfl,rfl,xA _,fun _ _ _=>rfl,fun _ _ cur _ _ h=>⟨cur,h,rfl,rfl⟩⟩
theorem Keeps.of_below{P:Nat->Option Nat}{w w':World}(h:Below w.heap.size w w'):Keeps P w w':=⟨h.os,h.tape,h.output,h.size,fun k hk _=>h.block k hk,fun k _ cur _ _ hc=>⟨cur,(h.block k (Qaa hc)).trans hc,rfl,rfl⟩⟩
theorem Zcm{α:Type}{m n:Nat}{a b:List α}(hmn:m<=n)(h:a.take n=b.take n):a.take m=b.take m:=by
 have:=congrArg (List.take m) h
 rwa[List.take_take,List.take_take,Nat.min_eq_left hmn]at this
def Qja(N:Nat)(P P':Nat->Option Nat):Prop:=∀ k,k<N->P' k=none\/∃ n m,P k=some n/\P' k=some m/\n<=m
theorem Keeps.trans{P P':Nat->Option Nat}{a b c:World}(h:Keeps P a b)(h':Keeps P' b c)(hp:Qja a.heap.size P P'):Keeps P a c:=by
 refine⟨h'.os.trans h.os,h'.tape.trans h.tape,h'.output.trans h.output,xQ h.size h'.size,fun k hk hn=>?_,fun k n cur t hn hc=>?_⟩
 ·rcases hp k hk with h0|⟨_,_,h1,_⟩
  ·exact(h'.block k (xE hk h.size) h0).trans (h.block k hk hn)
  ·rw[hn]at h1;cases h1
 ·obtain⟨c1,hc1,hs1,ht1⟩:=h.cells k n cur t hn hc
  rcases hp k (Qaa hc) with h0|⟨n',m,h1,h2,h3⟩
  ·exact⟨c1,(h'.block k (Qaa hc1) h0).trans hc1,hs1,ht1⟩
  ·rw[hn]at h1;injection h1 with h1;subst h1;obtain⟨c2,hc2,hs2,ht2⟩:=h'.cells k m c1 t h2 hc1;exact⟨c2,hc2,hs2.trans hs1,(Zcm h3 ht2).trans ht1⟩
theorem Keeps.below{P:Nat->Option Nat}{w w':World}{B:Nat}(h:Keeps P w w')(hB:B<=w.heap.size)(hp:∀ k,k<B->P k=none):Below B w w':=⟨h.os,h.tape,h.output,h.size,fun k hk=>h.block k (xE hk hB) (hp k hk)⟩
def pre(v:Value)(c:Nat):Nat->Option Nat:=fun k=>if v.ownBlock=some k then some c else none
theorem Qmt{v:Value}{c k:Nat}(h:v.ownBlock=some k):pre v c k=some c:=xO h
theorem Qch{v:Value}{c k:Nat}(h:v.ownBlock≠some k):pre v c k=none:=xN h
theorem Keeps.row{P:Nat->Option Nat}{w w':World}(h:Keeps P w w'){B:Nat}{e:TypeId}{size:Nat}{v:Value}{n:Nat}{xs:List Value}(hr:w.ownsRow B e size v n xs)
  (hp:∀ k,v.ownBlock=some k->P k=none\/∃ m,P k=some m/\n*size<=m):w'.ownsRow B e size v n xs:=by
 refine⟨hr.1,?_⟩
 rcases hr.2 with h0|⟨g,cap,cur,rfl,hb,hh,hnc,hm,hsz,htk⟩
 ·exact .inl h0
 ·rcases hp g rfl with h0|⟨m,h1,h2⟩
  ·exact .inr ⟨g,cap,cur,rfl,hb,(h.block g (Qaa hh) h0).trans hh,hnc,hm,hsz,htk⟩
  ·obtain⟨c1,hc1,hs1,ht1⟩:=h.cells g m cur e h1 hh;exact .inr ⟨g,cap,c1,rfl,hb,hc1,hnc,hm,hs1.trans hsz,(Zcm h2 ht1).trans htk⟩
theorem Qhe{w:World}{B B':Nat}{e:TypeId}{size:Nat}{v:Value}{n:Nat}{xs:List Value}(h:w.ownsRow B e size v n xs)(hb:B'<=B):w.ownsRow B' e size v n xs :=
 ⟨h.1,h.2.imp id fun⟨g,cap,cur,h1,h2,h3⟩=>⟨g,cap,cur,h1,xQ hb h2,h3⟩⟩
variable {P:Program}
theorem Zkb(w:World)(t ty:TypeId)(B:Nat)(e:TypeId)(i:TypeInfo)(z:Value)(size bytes:Nat)(ht:P.underlying t=some (.slice e))(hi:P.info? e=some i)(hz:i.zero=some z)
  (hsize:i.size=size) (hby:i.bytes=bytes) (hzs:z.cells.size=size) (hsz:0<size) (v:Value) (n:Nat) (xs:List Value) (hown:w.ownsRow B e size v n xs)
  (ad:Addr) (m c:Nat) (news:List Value) (hl:news.length=m*size) (hnews:∀ j u,news[j]? = some u->w.cell? (ad.add j)=some u) (h1:∀ u∈news,u.oneCell'=true)
  (hm:0<m) (h63:n+m<=maxLen) (hbytes:(n+m)*bytes<=140737488355328) (hB:B<=w.heap.size) :
  ∃ g cap w',(Builtin.append_ #[t,t] ty #[v,.slice (some ad) m c]).run P w = .ok (.slice (some ⟨g,0,none⟩) (n+m) cap) w'/\w'.ownsRow B e size (.slice (some ⟨g,0,none⟩) (n+m) cap) (n+m) (xs ++ news) /\
   Keeps (pre v (n*size)) w w'/\(v.ownBlock=some g\/w.heap.size<=g)/\g<w'.heap.size:=by
 have old:∀ (v':Value) (w':World),w'.ownsRow w.heap.size e size v' (n+m) (xs ++ news)->w.grownBy w' none->∃ g cap,v' = .slice (some ⟨g,0,none⟩) (n+m) cap/\w'.ownsRow B e size (.slice (some ⟨g,0,none⟩) (n+m) cap) (n+m) (xs ++ news) /\
   Keeps (pre v (n*size)) w w'/\(v.ownBlock=some g\/w.heap.size<=g)/\g<w'.heap.size:=fun v' w' r1 r2=>by
  obtain⟨g,cap,rfl,hg,hlt⟩:=r1.form (by omega);exact⟨g,cap,rfl,Qhe r1 hB,Keeps.of_below ⟨r2.os,r2.tape,r2.output,r2.size,fun k hk=>r2.block k hk (by simp)⟩,.inr hg,hlt⟩
 rcases hown.2 with⟨rfl,rfl⟩|⟨g,cap,cur,rfl,hb,hh,hnc,hcm,hcs,htk⟩
 ·have hxs:xs = []:=List.eq_nil_of_length_eq_zero (by simpa using hown.1);subst hxs;obtain⟨v',w',hrun,r1,r2,_⟩:=run_append_own (P:=P) w w.heap.size t ty e i z size bytes ht hi hz hsize hby hzs hsz (.slice none 0 0) 0 [] (World.ownsRow_nil w _ e size) ad m c news hl hnews h1 h63 hbytes (xA _);obtain⟨g,cap,rfl,q1,q2,q3,q4⟩:=old v' w' r1 r2;exact⟨g,cap,w',hrun,q1,q2,q3,q4⟩
 ·by_cases hroom:n+m<=cap
  ·obtain⟨w',hr,h2,h3⟩:=run_append_own_spare (P:=P) w B t ty e i size ht hi hsize g n cap xs hown ad m c news hl hnews h1 hroom
   refine⟨g,cap,w',hr,h2,⟨h3.os,h3.tape,h3.output,h3.size,fun k hk hp=>h3.block k hk (fun e'=>?_),fun k c2 cur2 t2 hp hk=>?_⟩,.inl rfl,xE (Qaa hh) h3.size⟩
   ·injection e' with e';subst e';rw[Qmt rfl]at hp;cases hp
   ·by_cases hkg:k=g
    ·subst hkg;rw[Qmt rfl]at hp;injection hp with hp;subst hp;rw[hh]at hk;injection hk with hk;injection hk with e1 e2;subst e1 e2
     rcases h2.2 with⟨h0,_⟩|⟨g',cap',cur',hv,_,hh',_,_,hs',ht'⟩
     ·cases h0
     ·injection hv with hv _ hc';injection hv with hv;injection hv with hv;subst hv hc';refine⟨cur',hh',by rw[hs',hcs],?_⟩;rw[htk];have:=congrArg (List.take (n*size)) ht'
      rw[List.take_take,Nat.min_eq_left (Nat.mul_le_mul_right _ (by omega)),List.take_left' hown.1]at this;exact this
    ·rw[Qch (by intro e';injection e' with e';exact hkg e'.symm)]at hp;cases hp
  ·obtain⟨v',w',hrun,r1,r2⟩:=run_append_arg_grows (P:=P) w t ty e i z size bytes ht hi hz hsize hby hzs hsz ⟨g,0,none⟩ n cap xs hown.1 (fun j u hj=>hown.cells rfl j u hj) ad m c news hl hnews (by omega) h63 hbytes;obtain⟨g',cap',rfl,q1,q2,q3,q4⟩:=old v' w' r1 r2;exact⟨g',cap',w',hrun,q1,q2,q3,q4⟩
theorem Zic(w:World){o:Oper}{a:Act}{K:Act->World->Prop}{Q:Exit->Act->World->Prop}(s x:Operand)(t:TypeId)(ho:o.op = .call { callee:=.builtin .append,args:=#[s,x],argTypes:=#[t,t] })
  (B:Nat) (e:TypeId) (i:TypeInfo) (z:Value) (size bytes:Nat) (ht:P.underlying t=some (.slice e)) (hi:P.info? e=some i) (hz:i.zero=some z)
  (hsize:i.size=size) (hby:i.bytes=bytes) (hzs:z.cells.size=size) (hsz:0<size) (v:Value) (n:Nat) (xs:List Value) (hs:a.eval s=v) (hown:w.ownsRow B e size v n xs)
  (ad:Addr) (m c:Nat) (news:List Value) (hx:a.eval x = .slice (some ad) m c) (hl:news.length=m*size) (hnews:∀ j u,news[j]? = some u->w.cell? (ad.add j)=some u) (h1:∀ u∈news,u.oneCell'=true)
  (hm:0<m) (h63:n+m<=maxLen) (hbytes:(n+m)*bytes<=140737488355328) (hB:B<=w.heap.size)
  (h:∀ g cap w',w'.ownsRow B e size (.slice (some ⟨g,0,none⟩) (n+m) cap) (n+m) (xs ++ news)->Keeps (pre v (n*size)) w w'->(v.ownBlock=some g\/w.heap.size<=g)->g<w'.heap.size->K (a.put o.dst (.slice (some ⟨g,0,none⟩) (n+m) cap)) w'):o.wp P a w K Q:=by
 obtain⟨g,cap,w',hr,h2,h3,h4,h5⟩:=Zkb (P:=P) w t o.type B e i z size bytes ht hi hz hsize hby hzs hsz v n xs hown ad m c news hl hnews h1 hm h63 hbytes hB;unfold Oper.wp execOp;simp only[ho,resolve,invoke,builtin,Sem.run_bind,Sem.run_pure,Result.andThen_ok,List.map_toArray,List.map_cons,List.map_nil,hs,hx,hr];exact h g cap w' h2 h3 h4 h5
theorem Qep(w:World){ops:Array Oper}{rest:List Oper}{o:Oper}{a:Act}{Q:Exit->Act->World->Prop}(hgd:o.guard=none)(s x:Operand)(t:TypeId)(ho:o.op = .call { callee:=.builtin .append,args:=#[s,x],argTypes:=#[t,t] })
  (B:Nat) (e:TypeId) (i:TypeInfo) (z:Value) (size bytes:Nat) (ht:P.underlying t=some (.slice e)) (hi:P.info? e=some i) (hz:i.zero=some z)
  (hsize:i.size=size) (hby:i.bytes=bytes) (hzs:z.cells.size=size) (hsz:0<size) (v:Value) (n:Nat) (xs:List Value) (hs:a.eval s=v) (hown:w.ownsRow B e size v n xs)
  (ad:Addr) (m c:Nat) (news:List Value) (hx:a.eval x = .slice (some ad) m c) (hl:news.length=m*size) (hnews:∀ j u,news[j]? = some u->w.cell? (ad.add j)=some u) (h1:∀ u∈news,u.oneCell'=true)
  (hm:0<m) (h63:n+m<=maxLen) (hbytes:(n+m)*bytes<=140737488355328) (hB:B<=w.heap.size)
  (h:∀ g cap w',w'.ownsRow B e size (.slice (some ⟨g,0,none⟩) (n+m) cap) (n+m) (xs ++ news)->Keeps (pre v (n*size)) w w'->(v.ownBlock=some g\/w.heap.size<=g)->g<w'.heap.size->wpList P ops Q rest (a.put o.dst (.slice (some ⟨g,0,none⟩) (n+m) cap)) w'):wpList P ops Q (o :: rest) a w :=
 wpList_plain hgd fun _ hK=>Zic w s x t ho B e i z size bytes ht hi hz hsize hby hzs hsz v n xs hs hown ad m c news hx hl hnews h1 hm h63 hbytes hB fun g cap w' q1 q2 q3 q4=>hK _ _ (h g cap w' q1 q2 q3 q4)
theorem Qv2(w:World){ops:Array Oper}{o:Oper}{a:Act}{K:Act->World->Prop}{Q:Exit->Act->World->Prop}{E:Prop}(hgd:o.guard=none)(s x:Operand)(t:TypeId)(ho:o.op = .call { callee:=.builtin .append,args:=#[s,x],argTypes:=#[t,t] })
  (B:Nat) (e:TypeId) (i:TypeInfo) (z:Value) (size bytes:Nat) (ht:P.underlying t=some (.slice e)) (hi:P.info? e=some i) (hz:i.zero=some z)
  (hsize:i.size=size) (hby:i.bytes=bytes) (hzs:z.cells.size=size) (hsz:0<size) (v:Value) (n:Nat) (xs:List Value) (hs:a.eval s=v) (hown:w.ownsRow B e size v n xs)
  (ad:Addr) (m c:Nat) (news:List Value) (hx:a.eval x = .slice (some ad) m c) (hl:news.length=m*size) (hnews:∀ j u,news[j]? = some u->w.cell? (ad.add j)=some u) (h1:∀ u∈news,u.oneCell'=true)
  (hm:0<m) (h63:n+m<=maxLen) (hbytes:(n+m)*bytes<=140737488355328) (hB:B<=w.heap.size)
  (h:∀ g cap w',w'.ownsRow B e size (.slice (some ⟨g,0,none⟩) (n+m) cap) (n+m) (xs ++ news)->Keeps (pre v (n*size)) w w'->(v.ownBlock=some g\/w.heap.size<=g)->g<w'.heap.size->K (a.put o.dst (.slice (some ⟨g,0,none⟩) (n+m) cap)) w') :
  if Region.wanted o (yielded ops a.tmps)=true then Oper.wp P o a w K Q else E:=by
 have hw:Region.wanted o (yielded ops a.tmps)=true:=by simp[Region.wanted,hgd]
 rw[xO hw];exact Zic w s x t ho B e i z size bytes ht hi hz hsize hby hzs hsz v n xs hs hown ad m c news hx hl hnews h1 hm h63 hbytes hB h
def Later(w:World)(v v':Value):Prop:=∀ g,v'.ownBlock=some g->v.ownBlock=some g\/w.heap.size<=g
def DiceAt(B:Nat)(w:World):Prop:=∃ (A:yE) (c k:Nat) (xs:List Int),w.heap[B]? = some (.cells #[.slice A xs.length c,.int .i64 k] 107 (0,0))/\xs.length<=120/\k<=xs.length/\xs.length<=c /\
 (xs≠[]->∃ b off,A=some ⟨b,off,none⟩/\b<B/\∀ (i:Nat) (x:Int),xs[i]? = some x->w.cell? ⟨b,off+i,none⟩=some (.int .i64 x))
theorem DiceAt.lt{B:Nat}{w:World}(h:DiceAt B w):B<w.heap.size:=by
 obtain⟨_,_,_,_,hh,_⟩:=h;exact Qaa hh
theorem DiceAt.other{B:Nat}{w w':World}(h:DiceAt B w)(hb:∀ k,k<=B->w'.heap[k]? = w.heap[k]?):DiceAt B w':=by
 obtain⟨A,c,k,xs,h1,h2,h3,h4,h5⟩:=h;refine⟨A,c,k,xs,(hb B (xA _)).trans h1,h2,h3,h4,fun hne=>?_⟩;obtain⟨b,off,q1,q2,q3⟩:=h5 hne;exact⟨b,off,q1,q2,fun i x hx=>(xJ (w:=w) (a:=⟨b,off+i,none⟩) (hb b (Nat.le_of_lt q2))).trans (q3 i x hx)⟩
theorem DiceAt.keep{B:Nat}{w w':World}(h:DiceAt B w)(hb:Below w.heap.size w w'):DiceAt B w':=h.other fun k hk=>hb.block k (Nat.lt_of_le_of_lt hk h.lt)
theorem DiceAt.next{B k:Nat}{w:World}{A:yE}{c:Nat}{xs:List Int}(h1:w.heap[B]? = some (.cells #[.slice A xs.length c,.int .i64 k] 107 (0,0)))(h2:xs.length<=120)(h3:k<xs.length)(h4:xs.length<=c)
  (h5:xs≠[]->∃ b off,A=some ⟨b,off,none⟩/\b<B/\∀ (i:Nat) (x:Int),xs[i]? = some x->w.cell? ⟨b,off+i,none⟩=some (.int .i64 x)):DiceAt B (w.setCell ⟨B,1,none⟩ (.int .i64 ((k:Int)+1))):=by
 refine⟨A,c,k+1,xs,Qa1 h1 rfl,h2,by omega,h4,fun hne=>?_⟩;obtain⟨b,off,q1,q2,q3⟩:=h5 hne;exact⟨b,off,q1,q2,fun i x hx=>(xJ (w:=w) (a:=⟨b,off+i,none⟩) (Qaq (k:=b) (by omega))).trans (q3 i x hx)⟩
def Zl0(B:Nat)(m:Int)(w:World)(e:Ending)(w':World):Prop:=∃ r:Int,e = .returned (.int .i64 r)/\0<=r/\r<m/\Rest1 B w w'/\DiceAt B w'
theorem Rest1.drewN{g:Nat}{w w':World}(h:Rest1 g w w')(n:Nat):Rest1 g w (w'.drewN n):=h.trans ⟨rfl,rfl,rfl,xA _,fun _ _ _=>rfl⟩
theorem DiceAt.drewN{B:Nat}{w:World}(h:DiceAt B w)(n:Nat):DiceAt B (w.drewN n):=h.other fun _ _=>rfl
def Qfl(B:Nat)(w:World)(m r:Int):Prop:=∀ w',(∀ k,k<=B->w'.heap[k]? = w.heap[k]?)->Calls prog 42 #[.pointer (some ⟨B,0,none⟩),.int .i64 m] w' fun e w''=>e = .returned (.int .i64 r)/\Rest1 B w' w''/\DiceAt B w''
theorem Qv3(B:Nat)(m:Int)(W:World)(hD:DiceAt B W)(h1:1<=m)(h2:m<=1000):∃ r:Int,0<=r/\r<m/\Qfl B W m r:=by
 obtain⟨A,c,k,xs,Q1,q2,q3,q4,Q5⟩:=hD
 by_cases hk:k<xs.length
 ·obtain⟨b,off,hA,hne,hcs⟩:=Q5 (by intro e;rw[e]at hk;simp at hk);obtain⟨x,hx⟩:∃ x,xs[k]? = some x:=⟨_,xF hk⟩;refine⟨Zlb x m,(Zbh x (m:=m) (by omega)).1,(Zbh x (m:=m) (by omega)).2,fun w hb=>?_⟩;have q1:=(hb B (xA _)).trans Q1;have q5:xs≠[]->∃ b off,A=some ⟨b,off,none⟩/\b<B/\∀ (i:Nat) (x:Int),xs[i]? = some x->w.cell? ⟨b,off+i,none⟩=some (.int .i64 x):=fun _=>⟨b,off,hA,hne,fun i x hi=>(xJ (w:=W) (a:=⟨b,off+i,none⟩) (hb b (Nat.le_of_lt hne))).trans (hcs i x hi)⟩
  have hcx:=(xJ (w:=W) (a:=⟨b,off+k,none⟩) (hb b (Nat.le_of_lt hne))).trans (hcs k x hx);have HD:=hQ (show DiceAt B w from⟨A,c,k,xs,q1,q2,q3,q4,q5⟩);subst hA;have c0:=Qab q1 0 _ rfl;have c1:=Qab q1 1 _ rfl;have hbl:=Qaa q1;have hfr:=xL q1;have d1:decide (xs.length<=k)=false:=xR (by omega);have hcb:=xK w _ hcx;have HN:=hQ (fun n=>DiceAt.next (w:=w.drewN n) q1 q2 hk q4 q5);have HNE:=hQ hne;have HQ:=hQ q1;have HCX:=hQ hcx;clear q1 q5 hcs hx Q1 Q5 hb;go_enter func42,ntmps42;go_wp2
  go_quiet (fail)
  go_wp2;have hb1:((w.drewN nq).setCell ⟨B,1,none⟩ (.int .i64 ((k:Int)+1))).heap[B]? = some (.cells #[.slice (some ⟨b,off,none⟩) xs.length c,.int .i64 ((k:Int)+1)] 107 (0,0)):=Qa1 (w:=w.drewN nq) HQ.out rfl;have hcz:((w.drewN nq).setCell ⟨B,1,none⟩ (.int .i64 ((k:Int)+1))).cell? ⟨b,off+k,none⟩=some (.int .i64 x):=(xJ (w:=w) (a:=⟨b,off+k,none⟩) (Qaq (w:=w.drewN nq) (k:=b) (by have:=HNE.out;omega))).trans HCX.out;have HRW:=hQ (show Rest1 B w ((w.drewN nq).setCell ⟨B,1,none⟩ (.int .i64 ((k:Int)+1))) from((Rest1.below (xC _ _)).drewN nq).trans (Rest1.set _ B 1 _));have HDW:=hQ (HN.out nq);generalize ((w.drewN nq).setCell ⟨B,1,none⟩ (.int .i64 ((k:Int)+1)))=W2 at *;clear c0 c1 hbl hfr hcx hcb;have c0:=Qab hb1 0 _ rfl;have c1:=Qab hb1 1 _ rfl;have hbl:=Qaa hb1;have hcb:=xK W2 _ hcz;have k1:(k:Int)+1-1=(k:Int):=by omega
  have k2:(0:Int)<=(k:Int):=by omega
  have k3:(k:Int)<(xs.length:Int):=by omega
  clear hb1
  go_quiet ((go_at_call 21;exact Calls.quiet_of_same ((Zjy _ _ _ (by omega) (by omega)).mono fun _ _ h=>⟨h.1,h.2.symm⟩)))
  go_wp2;go_ret;exact⟨rfl,HRW.out.drewN _,HDW.out.drewN _⟩
 ·obtain rfl:k=xs.length:=by omega
  refine⟨0,by omega,by omega,fun w hb=>?_⟩;have q1:=(hb B (xA _)).trans Q1;have HD:=hQ (DiceAt.other (w:=W) ⟨A,c,xs.length,xs,Q1,q2,q3,q4,Q5⟩ hb);have d1:decide (xs.length<=xs.length)=true:=xS (xA _);have c0:=Qab q1 0 _ rfl;have c1:=Qab q1 1 _ rfl;have hbl:=Qaa q1;have hfr:=xL q1;clear q1 Q1 Q5 hb;go_enter func42,ntmps42;go_wp2
  go_quiet (fail)
  go_wp2;go_ret;exact⟨rfl,(Rest1.below (xC _ _)).drewN _,HD.out.drewN _⟩
theorem Qci(B:Nat)(m:Int)(w:World)(hd:DiceAt B w)(h1:1<=m)(h2:m<=1000):Calls prog 42 #[.pointer (some ⟨B,0,none⟩),.int .i64 m] w (Zl0 B m w):=by
 obtain⟨r,h3,h4,h5⟩:=Qv3 B m w hd h1 h2;refine(h5 w fun _ _=>rfl).mono ?_;rintro e w'⟨q1,q2,q3⟩;exact⟨r,q1,h3,h4,q2,q3⟩
def szq(x:yD):Nat:=if x.data.toList = [113] then 8 else x.size
theorem Zl1{x:yD}(h:szq x<=7):x.size<=7:=by
 unfold szq at h
 split at h <;> omega
mutual
def Qf6:Tr->Bool
 | .mk _ x ls ks=>decide (szq x<=7) && decide (ls.length<=ks.length+6) && ls.all (fun y=>decide (y.size<=5)) && Qbu ks
def Qbu:List Tr->Bool
 | []=>true
 | t :: r=>Qf6 t && Qbu r
end
theorem Qg7:(a b:List Tr)->Qbu (a ++ b)=(Qbu a && Qbu b)
 | [],b=>by rw[xU,Qbu,Bool.true_and]
 | t :: r,b=>by rw[xV,Qbu,Qg7 r b,Qbu,Bool.and_assoc]
theorem Qnx:(l:List Tr)->(j:Nat)->(k:Tr)->Qbu l=true->l[j]? = some k->Qf6 k=true
 | [],j,k,_,hk=>by simp at hk
 | t :: r,j,k,h,hk=>by
  rw[Qbu,Bool.and_eq_true]at h;cases j with
  | zero=>simp at hk;subst hk;exact h.1
  | succ j=>exact Qnx r j k h.2 (by simpa using hk)
theorem Qcp{k:Int}{x:yD}{ls:List yD}{ks:List Tr}:Qf6 (.mk k x ls ks)=true ↔ szq x<=7/\ls.length<=ks.length+6/\(∀ y∈ls,y.size<=5)/\Qbu ks=true:=by
 rw[Qf6,Bool.and_eq_true,Bool.and_eq_true,Bool.and_eq_true,decide_eq_true_iff,decide_eq_true_iff,List.all_eq_true];simp only[decide_eq_true_iff];exact⟨fun h=>⟨h.1.1.1,h.1.1.2,h.1.2,h.2⟩,fun h=>⟨⟨⟨h.1,h.2.1⟩,h.2.2.1⟩,h.2.2.2⟩⟩
theorem Zcn:(l:List yD)->(∀ y∈l,y.size<=5)->szB l<=5*l.length
 | [],_=>by rw[szB];omega
 | y :: r,h=>by
  have h1:=Zcn r (fun z hz=>h z (by simp[hz]));have h2:=h y (by simp);rw[szB,xD];omega
mutual
theorem Qmu:(t:Tr)->Qf6 t=true->Qt6 t+7<=60*Qai t
 | .mk k x ls ks,h=>by
  obtain⟨h1',h2,h3,h4⟩:=Qcp.1 h;have h1:=Zl1 h1';have h5:=Qsg ks h4;have h6:=Zcn ls h3;rw[Qt6,Qai];omega
theorem Qsg:(l:List Tr)->Qbu l=true->7*l.length+Qx3 l<=60*Qal l
 | [],_=>by rw[Qx3,Qal];simp
 | t :: r,h=>by
  rw[Qbu,Bool.and_eq_true]at h;have h1:=Qmu t h.1;have h2:=Qsg r h.2;rw[Qx3,Qal,xD];omega
end
def KidsFr(lo:Nat)(w:World)(ks:List Tr)(us:List TV):Prop:=us.length=ks.length/\∀ (i:Nat) (k:Tr) (u:TV),ks[i]? = some k->us[i]? = some u->TrAt (fun b=>lo<=b/\b<w.heap.size) w k u
theorem KidsFr.nil(lo:Nat)(w:World):KidsFr lo w [] []:=⟨rfl,fun i k u h=>by simp at h⟩
theorem KidsFr.snoc{lo:Nat}{w:World}{ks:List Tr}{us:List TV}(h:KidsFr lo w ks us){k:Tr}{u:TV}(hu:TrAt (fun b=>lo<=b/\b<w.heap.size) w k u):KidsFr lo w (ks ++ [k]) (us ++ [u]):=by
 refine⟨by simp[h.1],fun i k' u' hk hu'=>?_⟩
 by_cases hi:i<ks.length
 ·rw[yB hi]at hk;rw[yB (by rw[h.1];exact hi)]at hu';exact h.2 i k' u' hk hu'
 ·have hl:=(xP.1 hk).1;rw[xB,List.length_singleton]at hl;obtain rfl:i=ks.length:=by omega
  rw[xX (xA _),Nat.sub_self]at hk;rw[<-h.1,xX (xA _),Nat.sub_self]at hu';injection hk with hk;injection hu' with hu';subst hk hu';exact hu
theorem KidsFr.move{B lo:Nat}{w w':World}{ks:List Tr}{us:List TV}(h:KidsFr lo w ks us)(hr:Rest1 B w w')(hB:B<lo):KidsFr lo w' ks us :=
 ⟨h.1,fun i k u hk hu=>TrAt.move (fun b hb=>⟨hb.1,xE hb.2 hr.size⟩) (fun b hb hl=>hr.block b hl (by omega)) _ _ (h.2 i k u hk hu)⟩
theorem Zkc{B a lo:Nat}{w w':World}{t:Tr}{u:TV}(h:TrAt (fun b=>a<=b/\b<w.heap.size) w t u)(hr:Rest1 B w w')(hB:B<a)(hl:lo<=a):TrAt (fun b=>lo<=b/\b<w'.heap.size) w' t u :=
 TrAt.move (fun b hb=>⟨by omega,xE hb.2 hr.size⟩) (fun b hb hlt=>hr.block b hlt (by omega)) _ _ h
theorem Zco{R lo:Nat}{w:World}{t:Tr}{u v:TV}(h:TrAt (fun b=>lo<=b/\b<w.heap.size) w t u)(hR:R<lo):TrAt (fun b=>lo<=b/\b<(Qek w R v).heap.size) (Qek w R v) t u :=
 TrAt.move (fun b hb=>⟨hb.1,by rw[Qb7];exact hb.2⟩) (fun b hb _=>Qa3 _ (by omega)) _ _ h
theorem Qjs{a lo:Nat}{w:World}{t:Tr}{u:TV}(h:TrAt (fun b=>a<=b/\b<w.heap.size) w t u)(hl:lo<=a):TrAt (fun b=>lo<=b/\b<w.heap.size) w t u :=
 TrAt.move (fun b hb=>⟨by omega,hb.2⟩) (fun _ _ _=>rfl) _ _ h
theorem Qj2(S:Nat->Prop)(w:World)(k:Int)(x:yD):TrAt S w (.mk k x [] []) ⟨k,x,none,0,0,none,0,0⟩:=by
 unfold TrAt;exact⟨rfl,rfl,rfl,rfl,fun h=>absurd rfl h,fun h=>absurd rfl h,xA _,xA _⟩
theorem Qqq{lo g:Nat}{w:World}{ks:List Tr}{us:List TV}(k:Int)(x:yD)(h:KidsFr lo w ks us)(hg:w.heap[g]? = some (.cells (Qag us).toArray 25 (0,0)))(hl:lo<=g)(n:Nat)(hn:n=us.length) :
  TrAt (fun b=>lo<=b/\b<w.heap.size) w (.mk k x [] ks) ⟨k,x,none,0,0,some ⟨g,0,none⟩,n,n⟩:=by
 subst hn;unfold TrAt;refine⟨rfl,rfl,rfl,h.1,fun hne=>absurd rfl hne,fun _=>⟨g,0,rfl,⟨hl,Qaa hg⟩,TrsAt.of ks 0 fun i t ht=>?_⟩,xA _,xA _⟩;have hi:=(xP.1 ht).1;obtain⟨u,hu⟩:∃ u,us[i]? = some u:=⟨_,xF (by rw[h.1];exact hi)⟩;obtain⟨q0,q1,q2,q3⟩:=Qd1 us i u hu;have hc:∀ (j:Nat) (x:Value),(Qag us)[j]? = some x->w.cell? ⟨g,j,none⟩=some x:=fun j x hx=>Qab hg j x (by simpa using hx)
 rw[Nat.zero_add];exact⟨u,hc _ _ q0,hc _ _ q1,hc _ _ q2,hc _ _ q3,h.2 i t u ht hu⟩
def Qcj(B n:Nat)(w:World)(e:Ending)(w':World):Prop:=∃ (t:Tr) (u:TV),e = .returned (.agg #[.int .i64 u.kind,.string u.text,.slice u.la u.ll u.lc,.slice u.ka u.kl u.kc])/\TrAt (fun b=>w.heap.size<=b/\b<w'.heap.size) w' t u/\Qai t<=n/\Qf6 t=true/\Rest1 B w w'/\DiceAt B w'
theorem Qe4{B R:Nat}{w wr:World}(v:TV)(hR:w.heap.size<=R)(hr:Rest1 B w wr):Rest1 B w (Qek wr R v) :=
 ⟨hr.os,hr.tape,hr.output,by rw[Qb7];exact hr.size,fun k hk hne=>(Qa3 v (by omega)).trans (hr.block k hk hne)⟩
theorem Qe5{B R:Nat}{wr:World}(v:TV)(hd:DiceAt B wr)(hR:B<R):DiceAt B (Qek wr R v):=hd.other fun k hk=>Qa3 v (by omega)
theorem Qa6{B n:Nat}{w wr:World}(k:Int)(x:yD)(hx:szq x<=7)(hn:1<=n)(hB:B<w.heap.size)(hr:Rest1 B w wr)(hd:DiceAt B wr) :
  Qcj B n w (.returned (.agg #[.int .i64 k,.string x,.slice none 0 0,.slice none 0 0])) (Qek wr w.heap.size ⟨k,x,none,0,0,none,0,0⟩) :=
 ⟨.mk k x [] [],⟨k,x,none,0,0,none,0,0⟩,rfl,Qj2 _ _ k x,by rw[Qai,Qal];omega,Qcp.2 ⟨hx,by simp,by simp,by rw[Qbu]⟩,Qe4 _ (xA _) hr,Qe5 _ hd hB⟩
def Qyp(B n:Nat)(k:Int)(w:World)(e:Ending)(w':World):Prop:=∃ (t:Tr) (u:TV),e = .returned (.agg #[.int .i64 u.kind,.string u.text,.slice u.la u.ll u.lc,.slice u.ka u.kl u.kc])/\TrAt (fun b=>w.heap.size<=b/\b<w'.heap.size) w' t u/\Qai t<=n/\Qf6 t=true/\Rest1 B w w'/\DiceAt B w'/\(t.kind=k\/t.kind=0)
theorem KidsFr.set{R lo:Nat}{w:World}{ks:List Tr}{us:List TV}(h:KidsFr lo w ks us)(v:TV)(hR:R<lo):KidsFr lo (Qek w R v) ks us:=⟨h.1,fun i k u hk hu=>Zco (h.2 i k u hk hu) hR⟩
theorem Qf7{B n:Nat}{w w2:World}{ks:List Tr}{us:List TV}(k:Int)(x:yD)(hx:szq x<=7)(hK:KidsFr (w.heap.size+1) w2 ks us)(hT:Qbu ks=true)(hS:1+Qal ks<=n)(hB:B<w.heap.size)(hr:Rest1 B w w2)(hd:DiceAt B w2)(h1:w.heap.size+1<=w2.heap.size)(m:Nat)(hm:m=us.length) :
  Qcj B n w (.returned (.agg #[.int .i64 k,.string x,.slice none 0 0,.slice (some ⟨w2.heap.size,0,none⟩) m m])) ((Qek w2 w.heap.size ⟨k,x,none,0,0,some ⟨w2.heap.size,0,none⟩,m,m⟩).alloc (.cells (Qag us).toArray 25)):=by
 have hsz:=Qb7 w2 w.heap.size ⟨k,x,none,0,0,some ⟨w2.heap.size,0,none⟩,m,m⟩;have hr3:=Qe4 (R:=w.heap.size) ⟨k,x,none,0,0,some ⟨w2.heap.size,0,none⟩,m,m⟩ (xA _) hr;have hd3:=Qe5 (R:=w.heap.size) ⟨k,x,none,0,0,some ⟨w2.heap.size,0,none⟩,m,m⟩ hd hB;have hK3:=hK.set ⟨k,x,none,0,0,some ⟨w2.heap.size,0,none⟩,m,m⟩ (R:=w.heap.size) (by omega);generalize Qek w2 w.heap.size ⟨k,x,none,0,0,some ⟨w2.heap.size,0,none⟩,m,m⟩=w3 at *;have hb:Below w3.heap.size w3 (w3.alloc (.cells (Qag us).toArray 25)):=(xC _ _).alloc (xA _) _;have hK2:=hK3.move (Rest1.below (g:=B) hb) (by omega);have hN:=Qqq (g:=w2.heap.size) k x hK2 (by rw[<-hsz];exact xH w3 _) (by omega) m hm;exact⟨.mk k x [] ks,⟨k,x,none,0,0,some ⟨w2.heap.size,0,none⟩,m,m⟩,rfl,Qjs hN (by omega),by rw[Qai];omega,Qcp.2 ⟨hx,by simp,by simp,hT⟩,hr3.trans (Rest1.below hb),hd3.keep hb⟩
theorem KidsFr.keepB{lo:Nat}{w w':World}{ks:List Tr}{us:List TV}(h:KidsFr lo w ks us)(hb:Below w.heap.size w w'):KidsFr lo w' ks us :=
 ⟨h.1,fun i k u hk hu=>TrAt.move (fun _ hb'=>⟨hb'.1,xE hb'.2 hb.size⟩) (fun b _ hl=>hb.block b hl) _ _ (h.2 i k u hk hu)⟩
theorem Zkd{lo:Nat}{w w':World}{t:Tr}{u:TV}(h:TrAt (fun b=>lo<=b/\b<w.heap.size) w t u)(hb:Below w.heap.size w w'):TrAt (fun b=>lo<=b/\b<w'.heap.size) w' t u :=
 TrAt.move (fun _ hb'=>⟨hb'.1,xE hb'.2 hb.size⟩) (fun b _ hl=>hb.block b hl) _ _ h
theorem Zcp{B n:Nat}{w w2:World}{t:Tr}{u:TV}(o:Obj)(h:TrAt (fun b=>w.heap.size+1<=b/\b<w2.heap.size) w2 t u)(hs:Qai t<=n)(ht:Qf6 t=true)(hB:B<w.heap.size)(hr:Rest1 B w w2)(hd:DiceAt B w2) :
  Qcj B n w (.returned (.agg #[.int .i64 u.kind,.string u.text,.slice u.la u.ll u.lc,.slice u.ka u.kl u.kc])) ((Qek w2 w.heap.size u).alloc o):=by
 have hr3:=Qe4 (R:=w.heap.size) u (xA _) hr;have hd3:=Qe5 (R:=w.heap.size) u hd hB;have h3:=Zco (R:=w.heap.size) (v:=u) h (by omega);generalize Qek w2 w.heap.size u=w3 at *;have hb:Below w3.heap.size w3 (w3.alloc o):=(xC _ _).alloc (xA _) _;exact⟨t,u,rfl,Qjs (Zkd h3 hb) (by omega),hs,ht,hr3.trans (Rest1.below hb),hd3.keep hb⟩
theorem Qyq{B n:Nat}{w w2:World}{ks:List Tr}{us:List TV}(o:Obj)(k:Int)(x:yD)(hx:szq x<=7)(hK:KidsFr (w.heap.size+1) w2 ks us)(hT:Qbu ks=true)(hS:1+Qal ks<=n)(hB:B<w.heap.size)(hr:Rest1 B w w2)(hd:DiceAt B w2)(h1:w.heap.size+1<=w2.heap.size)(m:Nat)(hm:m=us.length) :
  Qcj B n w (.returned (.agg #[.int .i64 k,.string x,.slice none 0 0,.slice (some ⟨w2.heap.size+1,0,none⟩) m m])) (((Qek w2 w.heap.size ⟨k,x,none,0,0,some ⟨w2.heap.size+1,0,none⟩,m,m⟩).alloc o).alloc (.cells (Qag us).toArray 25)):=by
 have hsz:=Qb7 w2 w.heap.size ⟨k,x,none,0,0,some ⟨w2.heap.size+1,0,none⟩,m,m⟩;have hr3:=Qe4 (R:=w.heap.size) ⟨k,x,none,0,0,some ⟨w2.heap.size+1,0,none⟩,m,m⟩ (xA _) hr;have hd3:=Qe5 (R:=w.heap.size) ⟨k,x,none,0,0,some ⟨w2.heap.size+1,0,none⟩,m,m⟩ hd hB;have hK3:=hK.set ⟨k,x,none,0,0,some ⟨w2.heap.size+1,0,none⟩,m,m⟩ (R:=w.heap.size) (by omega);generalize Qek w2 w.heap.size ⟨k,x,none,0,0,some ⟨w2.heap.size+1,0,none⟩,m,m⟩=w3 at *;have hb0:Below w3.heap.size w3 (w3.alloc o):=(xC _ _).alloc (xA _) _;have hz4:(w3.alloc o).heap.size=w2.heap.size+1:=by rw[xI,hsz]
 have hK4:=hK3.keepB hb0;have hr4:=hr3.trans (Rest1.below hb0);have hd4:=hd3.keep hb0;generalize w3.alloc o=w4 at *;have hb:Below w4.heap.size w4 (w4.alloc (.cells (Qag us).toArray 25)):=(xC _ _).alloc (xA _) _;have hN:=Qqq (g:=w2.heap.size+1) k x (hK4.keepB hb) (by rw[<-hz4];exact xH w4 _) (by omega) m hm;exact⟨.mk k x [] ks,⟨k,x,none,0,0,some ⟨w2.heap.size+1,0,none⟩,m,m⟩,rfl,Qjs hN (by omega),by rw[Qai];omega,Qcp.2 ⟨hx,by simp,by simp,hT⟩,hr4.trans (Rest1.below hb),hd4.keep hb⟩
theorem Qah{w:World}{b:Nat}{a:Int}{s:yD}{p q:Value}(h:w.heap[b]? = some (.cells #[.int .i64 a,.string s,p,q] 25 (0,0))) :
  w.cell? ⟨b,0,none⟩=some (.int .i64 a)/\w.cell? ⟨b,1,none⟩=some (.string s)/\w.cell? ⟨b,2,none⟩=some p/\w.cell? ⟨b,3,none⟩=some q/\b<w.heap.size/\∀ o,w.frozen? ⟨b,o,none⟩=false :=
 ⟨Qab h 0 _ rfl,Qab h 1 _ rfl,Qab h 2 _ rfl,Qab h 3 _ rfl,Qaa h,fun _=>xL h _⟩
def Zke(B:Nat)(w:World)(e:Ending)(w':World):Prop:=∃ s:yD,e = .returned (.string s)/\szq s<=7/\Rest1 B w w'/\DiceAt B w'
theorem Qv4(B b n:Nat)(ls:List yD)(w:World)(hd:DiceAt B w)(hn:ls.length=n)(h1:1<=n)(h2:n<=100)(hs:∀ s∈ls,szq s<=7)(hb:B<b)(hc:∀ (i:Nat) (s:yD),ls[i]? = some s->w.cell? ⟨b,i,none⟩=some (.string s)) :
  Calls prog 99 #[.pointer (some ⟨B,0,none⟩),.slice (some ⟨b,0,none⟩) n n] w (Zke B w):=by
 have HC:=hQ hc;have HS:=hQ hs;have HN:=hQ hn;clear hc hs hn;go_enter func99,ntmps99;go_wp2_with fail;go_at_call 42;refine(Qci B n _ hd (by omega) (by omega)).mono ?_;rintro e w1⟨r,rfl,hr0,hr1,hrest,hd1⟩;obtain⟨k,rfl⟩:∃ k:Nat,r=(k:Int):=⟨r.toNat,by omega⟩;obtain⟨s,hk⟩:∃ s,ls[k]? = some s:=⟨_,xF (by have:=HN.out;omega)⟩;have c:=HC.out k s hk;have c1:=(xJ (w:=w) (a:=⟨b,k,none⟩) (hrest.block b (xK w _ c) (by omega))).trans c;have hbl:=xK w1 _ c1;have HR:=hQ hrest;have HD1:=hQ hd1;have HSZ:=hQ (HS.out s (yA hk));clear hrest hd1 hk c;go_wp2;go_ret;exact⟨s,rfl,HSZ.out,HR.out,HD1.out⟩
theorem DiceAt.drew{B:Nat}{w:World}(h:DiceAt B w):DiceAt B w.drew:=h.other fun _ _=>rfl
theorem Rest1.ofDrew{B:Nat}{w w':World}(h:Rest1 B w.drew w'):Rest1 B w w':=⟨h.os,h.tape,h.output,h.size,h.block⟩
theorem Qcq(B n:Nat)(ls:List yD)(cs:Array Value)(w:World)(hd:DiceAt B w)(hcs:cs.toList=ls.map Value.string)(hn:ls.length=n)(h1:1<=n)(h2:n<=100)(hs:∀ s∈ls,szq s<=7) :
  Calls prog 99 #[.pointer (some ⟨B,0,none⟩),.slice (some ⟨w.heap.size,0,none⟩) n n] (w.alloc (.cells cs 9)) (Zke B w):=by
 have hb:Below w.heap.size w (w.alloc (.cells cs 9)):=(xC _ _).alloc (xA _) _
 refine(Qv4 B w.heap.size n ls _ (hd.keep hb) hn h1 h2 hs hd.lt fun i s hi=>Qab (xH w (.cells cs 9)) i _ ?_).mono ?_
 ·rw[<-Array.getElem?_toList,hcs,List.getElem?_map,hi];rfl
 ·rintro e w'⟨s,q1,q2,q3,q4⟩;exact⟨s,q1,q2,(Rest1.below hb).trans q3,q4⟩
theorem Qsh(B n:Nat)(ls:List yD)(cs:Array Value)(w:World)(hd:DiceAt B w)(hcs:cs.toList=ls.map Value.string)(hn:ls.length=n)(h1:1<=n)(h2:n<=100)(hs:∀ s∈ls,szq s<=7) :
  Calls prog 99 #[.pointer (some ⟨B,0,none⟩),.slice (some ⟨w.heap.size,0,none⟩) n n] (w.alloc (.cells cs 9)).drew (Zke B w):=by
 refine(Qv4 B w.heap.size n ls _ (hd.keep ((xC _ _).alloc (xA _) (.cells cs 9))).drew hn h1 h2 hs hd.lt fun i s hi=>Qab (w:=(w.alloc (.cells cs 9)).drew) (xH w (.cells cs 9)) i _ ?_).mono ?_
 ·rw[<-Array.getElem?_toList,hcs,List.getElem?_map,hi];rfl
 ·rintro e w'⟨s,q1,q2,q3,q4⟩;exact⟨s,q1,q2,(Rest1.below ((xC _ _).alloc (xA _) (.cells cs 9))).trans q3.ofDrew,q4⟩
end Go.Proofs.YtfjpemdejoejbaaGreat
