/- Part 20 -/
import Derived.Test.YtfjpemdejoejbaaGreatSg19
import Derived.Deep.DeepAppendRoom
import Derived.ArgAppend
set_option maxRecDepth 100000
set_option maxHeartbeats 4000000
namespace Go.Proofs.YtfjpemdejoejbaaGreat
open Go.RowKit Go.Shelf
structure Keeps (P:Nat→Option Nat) (w w':World):Prop where
 os:w'.os=w.os
 tape:w'.tape=w.tape
 output:w'.output=w.output
 size:w.heap.size≤w'.heap.size
 block:∀ k,k<w.heap.size→P k=none→w'.heap[k]? = w.heap[k]?
 cells:∀ k n cur t,P k=some n→w.heap[k]? = some (.cells cur t (0,0))→∃ cur',w'.heap[k]? = some (.cells cur' t (0,0))∧cur'.size=cur.size∧cur'.toList.take n=cur.toList.take n
theorem Keeps.refl (P:Nat→Option Nat) (w:World):Keeps P w w:=⟨rfl,rfl,rfl,xA _,fun _ _ _=>rfl,fun _ _ cur _ _ h=>⟨cur,h,rfl,rfl⟩⟩
theorem Keeps.of_below {P:Nat→Option Nat} {w w':World} (h:Below w.heap.size w w'):Keeps P w w':=⟨h.os,h.tape,h.output,h.size,fun k hk _=>h.block k hk,fun k _ cur _ _ hc=>⟨cur,(h.block k (Qaa hc)).trans hc,rfl,rfl⟩⟩
theorem Qss {α:Type} {m n:Nat} {a b:List α} (hmn:m≤n) (h:a.take n=b.take n):a.take m=b.take m:=by
 have:=congrArg (List.take m) h
 rwa [List.take_take,List.take_take,Nat.min_eq_left hmn] at this
def Qiz (N:Nat) (P P':Nat→Option Nat):Prop:=∀ k,k<N→P' k=none∨∃ n m,P k=some n∧P' k=some m∧n≤m
theorem Keeps.trans {P P':Nat→Option Nat} {a b c:World} (h:Keeps P a b) (h':Keeps P' b c) (hp:Qiz a.heap.size P P'):Keeps P a c:=by
 refine ⟨h'.os.trans h.os,h'.tape.trans h.tape,h'.output.trans h.output,xQ h.size h'.size,fun k hk hn=>?_,fun k n cur t hn hc=>?_⟩
 ·rcases hp k hk with h0|⟨_,_,h1,_⟩
  ·exact (h'.block k (xE hk h.size) h0).trans (h.block k hk hn)
  ·rw [hn] at h1;cases h1
 ·obtain ⟨c1,hc1,hs1,ht1⟩:=h.cells k n cur t hn hc
  rcases hp k (Qaa hc) with h0|⟨n',m,h1,h2,h3⟩
  ·exact ⟨c1,(h'.block k (Qaa hc1) h0).trans hc1,hs1,ht1⟩
  ·rw [hn] at h1;injection h1 with h1;subst h1;obtain ⟨c2,hc2,hs2,ht2⟩:=h'.cells k m c1 t h2 hc1;exact ⟨c2,hc2,hs2.trans hs1,(Qss h3 ht2).trans ht1⟩
theorem Keeps.below {P:Nat→Option Nat} {w w':World} {B:Nat} (h:Keeps P w w') (hB:B≤w.heap.size) (hp:∀ k,k<B→P k=none):Below B w w':=⟨h.os,h.tape,h.output,h.size,fun k hk=>h.block k (xE hk hB) (hp k hk)⟩
def pre (v:Value) (c:Nat):Nat→Option Nat:=fun k=>if v.ownBlock=some k then some c else none
theorem Qi0 {v:Value} {c k:Nat} (h:v.ownBlock=some k):pre v c k=some c:=xO h
theorem Qdp {v:Value} {c k:Nat} (h:v.ownBlock≠some k):pre v c k=none:=xN h
theorem Keeps.row {P:Nat→Option Nat} {w w':World} (h:Keeps P w w') {B:Nat} {e:TypeId} {size:Nat} {v:Value} {n:Nat} {xs:List Value} (hr:w.ownsRow B e size v n xs)
  (hp:∀ k,v.ownBlock=some k→P k=none∨∃ m,P k=some m∧n*size≤m):w'.ownsRow B e size v n xs:=by
 refine ⟨hr.1,?_⟩
 rcases hr.2 with h0|⟨g,cap,cur,rfl,hb,hh,hnc,hm,hsz,htk⟩
 ·exact .inl h0
 ·rcases hp g rfl with h0|⟨m,h1,h2⟩
  ·exact .inr ⟨g,cap,cur,rfl,hb,(h.block g (Qaa hh) h0).trans hh,hnc,hm,hsz,htk⟩
  ·obtain ⟨c1,hc1,hs1,ht1⟩:=h.cells g m cur e h1 hh;exact .inr ⟨g,cap,c1,rfl,hb,hc1,hnc,hm,hs1.trans hsz,(Qss h2 ht1).trans htk⟩
theorem Qij {w:World} {B B':Nat} {e:TypeId} {size:Nat} {v:Value} {n:Nat} {xs:List Value} (h:w.ownsRow B e size v n xs) (hb:B'≤B):w.ownsRow B' e size v n xs :=
 ⟨h.1,h.2.imp id fun ⟨g,cap,cur,h1,h2,h3⟩=>⟨g,cap,cur,h1,xQ hb h2,h3⟩⟩
variable {P:Program}
theorem Qze (w:World) (t ty:TypeId) (B:Nat) (e:TypeId) (i:TypeInfo) (z:Value) (size bytes:Nat) (ht:P.underlying t=some (.slice e)) (hi:P.info? e=some i) (hz:i.zero=some z)
  (hsize:i.size=size) (hby:i.bytes=bytes) (hzs:z.cells.size=size) (hsz:0<size) (v:Value) (n:Nat) (xs:List Value) (hown:w.ownsRow B e size v n xs)
  (ad:Addr) (m c:Nat) (news:List Value) (hl:news.length=m*size) (hnews:∀ j u,news[j]? = some u→w.cell? (ad.add j)=some u) (h1:∀ u∈news,u.oneCell'=true)
  (hm:0<m) (h63:n+m≤maxLen) (hbytes:(n+m)*bytes≤140737488355328) (hB:B≤w.heap.size) :
  ∃ g cap w',(Builtin.append_ #[t,t] ty #[v,.slice (some ad) m c]).run P w = .ok (.slice (some ⟨g,0,none⟩) (n+m) cap) w'∧w'.ownsRow B e size (.slice (some ⟨g,0,none⟩) (n+m) cap) (n+m) (xs ++ news) ∧
   Keeps (pre v (n*size)) w w'∧(v.ownBlock=some g∨w.heap.size≤g)∧g<w'.heap.size:=by
 have old:∀ (v':Value) (w':World),w'.ownsRow w.heap.size e size v' (n+m) (xs ++ news)→w.grownBy w' none→∃ g cap,v' = .slice (some ⟨g,0,none⟩) (n+m) cap∧w'.ownsRow B e size (.slice (some ⟨g,0,none⟩) (n+m) cap) (n+m) (xs ++ news) ∧
   Keeps (pre v (n*size)) w w'∧(v.ownBlock=some g∨w.heap.size≤g)∧g<w'.heap.size:=fun v' w' r1 r2=>by
  obtain ⟨g,cap,rfl,hg,hlt⟩:=r1.form (by omega);exact ⟨g,cap,rfl,Qij r1 hB,Keeps.of_below ⟨r2.os,r2.tape,r2.output,r2.size,fun k hk=>r2.block k hk (by simp)⟩,.inr hg,hlt⟩
 rcases hown.2 with ⟨rfl,rfl⟩|⟨g,cap,cur,rfl,hb,hh,hnc,hcm,hcs,htk⟩
 ·have hxs:xs = []:=List.eq_nil_of_length_eq_zero (by simpa using hown.1);subst hxs;obtain ⟨v',w',hrun,r1,r2,_⟩:=run_append_own (P:=P) w w.heap.size t ty e i z size bytes ht hi hz hsize hby hzs hsz (.slice none 0 0) 0 [] (World.ownsRow_nil w _ e size) ad m c news hl hnews h1 h63 hbytes (xA _);obtain ⟨g,cap,rfl,q1,q2,q3,q4⟩:=old v' w' r1 r2;exact ⟨g,cap,w',hrun,q1,q2,q3,q4⟩
 ·by_cases hroom:n+m≤cap
  ·obtain ⟨w',hr,h2,h3⟩:=run_append_own_spare (P:=P) w B t ty e i size ht hi hsize g n cap xs hown ad m c news hl hnews h1 hroom
   refine ⟨g,cap,w',hr,h2,⟨h3.os,h3.tape,h3.output,h3.size,fun k hk hp=>h3.block k hk (fun e'=>?_),fun k c2 cur2 t2 hp hk=>?_⟩,.inl rfl,xE (Qaa hh) h3.size⟩
   ·injection e' with e';subst e';rw [Qi0 rfl] at hp;cases hp
   ·by_cases hkg:k=g
    ·subst hkg;rw [Qi0 rfl] at hp;injection hp with hp;subst hp;rw [hh] at hk;injection hk with hk;injection hk with e1 e2;subst e1 e2
     rcases h2.2 with ⟨h0,_⟩|⟨g',cap',cur',hv,_,hh',_,_,hs',ht'⟩
     ·cases h0
     ·injection hv with hv _ hc';injection hv with hv;injection hv with hv;subst hv hc';refine ⟨cur',hh',by rw [hs',hcs],?_⟩;rw [htk];have:=congrArg (List.take (n*size)) ht'
      rw [List.take_take,Nat.min_eq_left (Nat.mul_le_mul_right _ (by omega)),List.take_left' hown.1] at this;exact this
    ·rw [Qdp (by intro e';injection e' with e';exact hkg e'.symm)] at hp;cases hp
  ·obtain ⟨v',w',hrun,r1,r2⟩:=run_append_arg_grows (P:=P) w t ty e i z size bytes ht hi hz hsize hby hzs hsz ⟨g,0,none⟩ n cap xs hown.1 (fun j u hj=>hown.cells rfl j u hj) ad m c news hl hnews (by omega) h63 hbytes;obtain ⟨g',cap',rfl,q1,q2,q3,q4⟩:=old v' w' r1 r2;exact ⟨g',cap',w',hrun,q1,q2,q3,q4⟩
theorem Ze1 (w:World) {o:Oper} {a:Act} {K:Act→World→Prop} {Q:Exit→Act→World→Prop} (s x:Operand) (t:TypeId) (ho:o.op = .call { callee:=.builtin .append,args:=#[s,x],argTypes:=#[t,t] })
  (B:Nat) (e:TypeId) (i:TypeInfo) (z:Value) (size bytes:Nat) (ht:P.underlying t=some (.slice e)) (hi:P.info? e=some i) (hz:i.zero=some z)
  (hsize:i.size=size) (hby:i.bytes=bytes) (hzs:z.cells.size=size) (hsz:0<size) (v:Value) (n:Nat) (xs:List Value) (hs:a.eval s=v) (hown:w.ownsRow B e size v n xs)
  (ad:Addr) (m c:Nat) (news:List Value) (hx:a.eval x = .slice (some ad) m c) (hl:news.length=m*size) (hnews:∀ j u,news[j]? = some u→w.cell? (ad.add j)=some u) (h1:∀ u∈news,u.oneCell'=true)
  (hm:0<m) (h63:n+m≤maxLen) (hbytes:(n+m)*bytes≤140737488355328) (hB:B≤w.heap.size)
  (h:∀ g cap w',w'.ownsRow B e size (.slice (some ⟨g,0,none⟩) (n+m) cap) (n+m) (xs ++ news)→Keeps (pre v (n*size)) w w'→(v.ownBlock=some g∨w.heap.size≤g)→g<w'.heap.size→K (a.put o.dst (.slice (some ⟨g,0,none⟩) (n+m) cap)) w'):o.wp P a w K Q:=by
 obtain ⟨g,cap,w',hr,h2,h3,h4,h5⟩:=Qze (P:=P) w t o.type B e i z size bytes ht hi hz hsize hby hzs hsz v n xs hown ad m c news hl hnews h1 hm h63 hbytes hB;unfold Oper.wp execOp;simp only [ho,resolve,invoke,builtin,Sem.run_bind,Sem.run_pure,Result.andThen_ok,List.map_toArray,List.map_cons,List.map_nil,hs,hx,hr];exact h g cap w' h2 h3 h4 h5
theorem Qhe (w:World) {ops:Array Oper} {rest:List Oper} {o:Oper} {a:Act} {Q:Exit→Act→World→Prop} (hgd:o.guard=none) (s x:Operand) (t:TypeId) (ho:o.op = .call { callee:=.builtin .append,args:=#[s,x],argTypes:=#[t,t] })
  (B:Nat) (e:TypeId) (i:TypeInfo) (z:Value) (size bytes:Nat) (ht:P.underlying t=some (.slice e)) (hi:P.info? e=some i) (hz:i.zero=some z)
  (hsize:i.size=size) (hby:i.bytes=bytes) (hzs:z.cells.size=size) (hsz:0<size) (v:Value) (n:Nat) (xs:List Value) (hs:a.eval s=v) (hown:w.ownsRow B e size v n xs)
  (ad:Addr) (m c:Nat) (news:List Value) (hx:a.eval x = .slice (some ad) m c) (hl:news.length=m*size) (hnews:∀ j u,news[j]? = some u→w.cell? (ad.add j)=some u) (h1:∀ u∈news,u.oneCell'=true)
  (hm:0<m) (h63:n+m≤maxLen) (hbytes:(n+m)*bytes≤140737488355328) (hB:B≤w.heap.size)
  (h:∀ g cap w',w'.ownsRow B e size (.slice (some ⟨g,0,none⟩) (n+m) cap) (n+m) (xs ++ news)→Keeps (pre v (n*size)) w w'→(v.ownBlock=some g∨w.heap.size≤g)→g<w'.heap.size→wpList P ops Q rest (a.put o.dst (.slice (some ⟨g,0,none⟩) (n+m) cap)) w'):wpList P ops Q (o :: rest) a w :=
 wpList_plain hgd fun _ hK=>Ze1 w s x t ho B e i z size bytes ht hi hz hsize hby hzs hsz v n xs hs hown ad m c news hx hl hnews h1 hm h63 hbytes hB fun g cap w' q1 q2 q3 q4=>hK _ _ (h g cap w' q1 q2 q3 q4)
theorem Zc5 (w:World) {ops:Array Oper} {o:Oper} {a:Act} {K:Act→World→Prop} {Q:Exit→Act→World→Prop} {E:Prop} (hgd:o.guard=none) (s x:Operand) (t:TypeId) (ho:o.op = .call { callee:=.builtin .append,args:=#[s,x],argTypes:=#[t,t] })
  (B:Nat) (e:TypeId) (i:TypeInfo) (z:Value) (size bytes:Nat) (ht:P.underlying t=some (.slice e)) (hi:P.info? e=some i) (hz:i.zero=some z)
  (hsize:i.size=size) (hby:i.bytes=bytes) (hzs:z.cells.size=size) (hsz:0<size) (v:Value) (n:Nat) (xs:List Value) (hs:a.eval s=v) (hown:w.ownsRow B e size v n xs)
  (ad:Addr) (m c:Nat) (news:List Value) (hx:a.eval x = .slice (some ad) m c) (hl:news.length=m*size) (hnews:∀ j u,news[j]? = some u→w.cell? (ad.add j)=some u) (h1:∀ u∈news,u.oneCell'=true)
  (hm:0<m) (h63:n+m≤maxLen) (hbytes:(n+m)*bytes≤140737488355328) (hB:B≤w.heap.size)
  (h:∀ g cap w',w'.ownsRow B e size (.slice (some ⟨g,0,none⟩) (n+m) cap) (n+m) (xs ++ news)→Keeps (pre v (n*size)) w w'→(v.ownBlock=some g∨w.heap.size≤g)→g<w'.heap.size→K (a.put o.dst (.slice (some ⟨g,0,none⟩) (n+m) cap)) w') :
  if Region.wanted o (yielded ops a.tmps)=true then Oper.wp P o a w K Q else E:=by
 have hw:Region.wanted o (yielded ops a.tmps)=true:=by simp [Region.wanted,hgd]
 rw [xO hw];exact Ze1 w s x t ho B e i z size bytes ht hi hz hsize hby hzs hsz v n xs hs hown ad m c news hx hl hnews h1 hm h63 hbytes hB h
def Later (w:World) (v v':Value):Prop:=∀ g,v'.ownBlock=some g→v.ownBlock=some g∨w.heap.size≤g
theorem Zc6 (w:World) (t ty:TypeId) (B C:Nat) (e:TypeId) (i:TypeInfo) (z:Value) (size bytes:Nat) (ht:P.underlying t=some (.slice e)) (hi:P.info? e=some i) (hz:i.zero=some z)
  (hsize:i.size=size) (hby:i.bytes=bytes) (hzs:z.cells.size=size) (hsz:0<size) (v:Value) (n:Nat) (xs:List Value) (hown:w.ownsRow B e size v n xs)
  (xv:Value) (m:Nat) (news:List Value) (hx:w.ownsRow C e size xv m news) (h1:∀ u∈news,u.oneCell'=true)
  (h63:n+m≤maxLen) (hbytes:(n+m)*bytes≤140737488355328) (hB:B≤w.heap.size) :
  ∃ v' w',(Builtin.append_ #[t,t] ty #[v,xv]).run P w = .ok v' w'∧w'.ownsRow B e size v' (n+m) (xs ++ news)∧Keeps (pre v (n*size)) w w'∧Later w v v':=by
 by_cases hm:0<m
 ·obtain ⟨g,cap,rfl,_,_⟩:=hx.form hm;obtain ⟨g',cap',w',hr,h2,h3,h4,_⟩:=Qze (P:=P) w t ty B e i z size bytes ht hi hz hsize hby hzs hsz v n xs hown ⟨g,0,none⟩ m cap news hx.1 (hx.cells rfl) h1 hm h63 hbytes hB;refine ⟨_,w',hr,h2,h3,fun k hk=>?_⟩;have hk':g'=k:=by injection hk
  subst hk';exact h4
 ·obtain rfl:m=0:=by omega
  have hn:news = []:=List.eq_nil_of_length_eq_zero (by simpa using hx.1);subst hn
  have hr:(Builtin.append_ #[t,t] ty #[v,xv]).run P w = .ok v w:=by
   subst hsize
   rcases hown.2 with ⟨rfl,_⟩|⟨g,cap,cur,rfl,_,_,hnc,_⟩
   ·rcases hx.2 with ⟨rfl,_⟩|⟨g2,cap2,cur2,rfl,_⟩ <;> clear hown hx h1 <;> simp [Builtin.append_,run_underlying ht,sizeOf,typeInfo,hi,Builtin.lenOf,Builtin.firstCells,loadCells,loadCellsFrom]
   ·rcases hx.2 with ⟨rfl,_⟩|⟨g2,cap2,cur2,rfl,_⟩
    ·have hst:=run_storeCells_cells (P:=P) g (0+n*i.size) [] 0 w (by simp) (by simp) (by simp);simp only [Nat.add_zero,Nat.zero_add] at hst;clear hown hx h1;simp [Builtin.append_,run_underlying ht,sizeOf,typeInfo,hi,Builtin.lenOf,hnc,Builtin.firstCells,loadCells,Addr.add_lit,hst]
     rfl
    ·have hst:=run_append_room_cells (P:=P) w t ty e i ht hi g 0 n cap ⟨g2,0,none⟩ 0 cap2 [] (by simp) (by simp) (by simp) (by omega) (by simp) (by simp);rw [hst];rfl
  exact ⟨v,w,hr,by simpa using hown,Keeps.refl _ _,fun g hg=>.inl hg⟩
theorem Qst (w:World) {ops:Array Oper} {rest:List Oper} {o:Oper} {a:Act} {Q:Exit→Act→World→Prop} (hgd:o.guard=none) (s x:Operand) (t:TypeId) (ho:o.op = .call { callee:=.builtin .append,args:=#[s,x],argTypes:=#[t,t] })
  (B C:Nat) (e:TypeId) (i:TypeInfo) (z:Value) (size bytes:Nat) (ht:P.underlying t=some (.slice e)) (hi:P.info? e=some i) (hz:i.zero=some z)
  (hsize:i.size=size) (hby:i.bytes=bytes) (hzs:z.cells.size=size) (hsz:0<size) (v:Value) (n:Nat) (xs:List Value) (hs:a.eval s=v) (hown:w.ownsRow B e size v n xs)
  (xv:Value) (m:Nat) (news:List Value) (hx:a.eval x=xv) (hxo:w.ownsRow C e size xv m news) (h1:∀ u∈news,u.oneCell'=true)
  (h63:n+m≤maxLen) (hbytes:(n+m)*bytes≤140737488355328) (hB:B≤w.heap.size)
  (h:∀ v' w',w'.ownsRow B e size v' (n+m) (xs ++ news)→Keeps (pre v (n*size)) w w'→Later w v v'→wpList P ops Q rest (a.put o.dst v') w'):wpList P ops Q (o :: rest) a w:=by
 refine wpList_plain hgd fun K hK=>?_
 obtain ⟨v',w',hr,h2,h3,h4⟩:=Zc6 (P:=P) w t o.type B C e i z size bytes ht hi hz hsize hby hzs hsz v n xs hown xv m news hxo h1 h63 hbytes hB;unfold Oper.wp execOp;simp only [ho,resolve,invoke,builtin,Sem.run_bind,Sem.run_pure,Result.andThen_ok,List.map_toArray,List.map_cons,List.map_nil,hs,hx,hr];exact hK _ _ (h v' w' h2 h3 h4)
theorem Qug:(Tryz.prog.info? 115).map (fun i=>(i.zero,i.size,i.bytes))=some (some (.agg #[.string ⟨#[]⟩,.slice none 0 0]),2,40):=by kernel_rfl
def Qgw (us:List (ByteArray × Value)):List Value:=us.flatMap fun u=>[.string u.1,u.2]
theorem Qhy (a b:List (ByteArray × Value)):Qgw (a ++ b)=Qgw a ++ Qgw b:=by unfold Qgw;rw [List.flatMap_append]
def Ql0 (w:World) (B:Nat) (v:Value) (us:List (ByteArray × Value)):Prop:=w.ownsRow B 115 2 v us.length (Qgw us)
def IB (w:World) (lo:Nat) (v:Value) (p:List Int):Prop:=∃ g c cur,v = .slice (some ⟨g,0,none⟩) p.length c∧lo≤g∧w.heap[g]? = some (.cells cur 3 (0,0))∧cur.toList.take p.length=p.map (Value.int .i64)
def ParamsAt (w:World) (lo:Nat) (us:List (ByteArray × Value)) (ps:List Bnd):Prop:=us.length=ps.length∧∀ (j:Nat) (y:ByteArray × Value) (z:Bnd),us[j]? = some y→ps[j]? = some z→y.1=z.1∧IB w lo y.2 z.2
theorem IB.keep {w w':World} {lo:Nat} {v:Value} {p:List Int} (h:IB w lo v p) (hb:Below w.heap.size w w'):IB w' lo v p:=by
 obtain ⟨g,c,cur,h1,h2,h3,h4⟩:=h;exact ⟨g,c,cur,h1,h2,(hb.block g (Qaa h3)).trans h3,h4⟩
theorem Qzf {w:World} {B:Nat} {r:Value} {us:List (ByteArray × Value)} (h:Ql0 w B r us) {g:Nat} {cur:Array Value} {ty:TypeId} {fr:Nat × Nat} (hg:w.heap[g]? = some (.cells cur ty fr)) (ht:ty≠115):r.ownBlock≠some g:=fun e=>by
 rcases h.2 with ⟨rfl,_⟩|⟨g',cap,cur',rfl,_,hh,_⟩
 ·cases e
 ·injection e with e;subst e;rw [hg] at hh;injection hh with hh;injection hh with _ h2;exact ht h2
theorem IB.keeps {w w':World} {lo B:Nat} {v r:Value} {p:List Int} {c:Nat} {us:List (ByteArray × Value)} (h:IB w lo v p) (hr:Ql0 w B r us) (hk:Keeps (pre r c) w w'):IB w' lo v p:=by
 obtain ⟨g,cp,cur,h1,h2,h3,h4⟩:=h;exact ⟨g,cp,cur,h1,h2,(hk.block g (Qaa h3) (Qdp (Qzf hr h3 (by decide)))).trans h3,h4⟩
theorem ParamsAt.step {w w':World} {lo:Nat} {us:List (ByteArray × Value)} {ps:List Bnd} (h:ParamsAt w lo us ps) (hk:∀ v p,IB w lo v p→IB w' lo v p):ParamsAt w' lo us ps:=⟨h.1,fun j y z hy hz=>⟨(h.2 j y z hy hz).1,hk _ _ (h.2 j y z hy hz).2⟩⟩
theorem ParamsAt.snoc {w:World} {lo:Nat} {us:List (ByteArray × Value)} {ps:List Bnd} (h:ParamsAt w lo us ps) {v:Value} {x:ByteArray} {p:List Int} (hi:IB w lo v p):ParamsAt w lo (us ++ [(x,v)]) (ps ++ [(x,p)]):=by
 refine ⟨by rw [xB,xB,h.1];rfl,fun j y z hy hz=>?_⟩
 by_cases hj:j<us.length
 ·rw [yB hj] at hy;rw [yB (by rw [←h.1];exact hj)] at hz;exact h.2 j y z hy hz
 ·have hjl:=(xP.1 hy).1;rw [xB,List.length_singleton] at hjl;obtain rfl:j=us.length:=by omega
  rw [xX (xA _),Nat.sub_self] at hy;rw [h.1,xX (xA _),Nat.sub_self] at hz;injection hy with hy;injection hz with hz;subst hy hz;exact ⟨rfl,hi⟩
def ParL (t:Tr) (v:TV) (w:World) (l i:Value) (wr:World):Prop:=∃ (k:Nat) (us:List (ByteArray × Value)) (done:List Bnd) (iv:Int),i = .int .i64 iv∧(iv=(k:Int)-1∨k=0∧iv<0)∧-3≤iv∧k≤t.kids.length∧us.length+k≤1000000 ∧
 Ql0 wr (w.heap.size+1) l us∧ParamsAt wr w.heap.size us done∧done ++ Qej t.kids k=Qek t.kids∧Below w.heap.size w wr∧wr.heap[w.heap.size]? = some (trO v)
theorem Qnk (S:Nat→Prop) (t:Tr) (v:TV) (w:World) (ht:TrAt S w t v) (hl:t.kids.length≤1000000) :
  Calls Tryz.prog 112 #[.agg #[.int .i64 v.kind,.string v.text,.slice v.la v.ll v.lc,.slice v.ka v.kl v.kc]] w fun e w'=>∃ r us,e = .returned r∧Ql0 w' w.heap.size r us∧ParamsAt w' w.heap.size us (Qek t.kids)∧Below w.heap.size w w':=by
 have HB0:=hQ ((xC w.heap.size w).alloc (xA _) (trO v));have HT:=hQ (TrAt.low t v ht);have HX:=hQ (xH w (trO v));have hkl:=ht.kl.1;obtain ⟨vk,vx,vla,vll,vlc,vka,vkl,vkc⟩:=v;simp only at hkl;subst hkl;clear ht
 go_enter Tryz.func112,Tryz.ntmps112
 go_wp2
 have HLL:=hQ hl;clear hl
 go_loopw [3,4] (fun l i wr=>ParL t ⟨vk,vx,vla,vll,vlc,vka,t.kids.length,vkc⟩ w l i wr) (fun _ i _=>(intOf i+1).toNat)
 case atStart =>
  have:=HLL.out
  refine ⟨t.kids.length-2,[],[],_,rfl,by omega,by omega,by omega,by simp;omega,World.ownsRow_nil _ _ _ _,⟨rfl,fun j y z hy=>by simp at hy⟩,rfl,HB0.out,HX.out⟩
 case round =>
  obtain ⟨k,us,done,iv,rfl,hiv,hi3,hkl,hul,hr,hp,hd,hb,hx⟩:=hrel;have HR:=hQ hr;have HPP:=hQ hp;have HDD:=hQ hd;have HB:=hQ hb;have HXX:=hQ hx;clear hr hp hd hb hx;have k3:=Qab HXX.out 3 _ rfl;have hbl:=Qaa HXX.out
  by_cases h0:0≤iv
  ·obtain ⟨q,rfl⟩:∃ q:Nat,iv=(q:Int):=⟨iv.toNat,by omega⟩;obtain rfl:k=q+1:=by omega
   have hq:q<t.kids.length:=by omega
   obtain ⟨kb,ko,hka⟩:∃ b off,vka=some ⟨b,off,none⟩:=HT.out.addr.resolve_left (by omega);subst hka;obtain ⟨kd,hkd⟩:∃ kd,t.kids[q]? = some kd:=⟨_,xF hq⟩;obtain ⟨u,c0,c1,c2,c3,hu⟩:=(HT.out.lows HB.out).at rfl hkd;have hcap:=HT.out.caps.2;simp only at hcap;have hqi:(q:Int)<(t.kids.length:Int):=by omega
   have HTX:=hQ hu.kl.2.2.2;have HKD:=hQ hkd;obtain ⟨ip,hip,pz0,pz1,pz2⟩:=info_parts Qug;have HW:=hQ (show Below wr.heap.size wr ((wr.alloc (.cells #[.int .i64 (q:Int)] 3)).alloc (.cells #[.string u.text,.slice (some ⟨wr.heap.size,0,none⟩) 1 1] 115)) from ((xC _ wr).alloc (xA _) _).alloc (by simp) _);have HRW:=hQ (show Ql0 ((wr.alloc (.cells #[.int .i64 (q:Int)] 3)).alloc (.cells #[.string u.text,.slice (some ⟨wr.heap.size,0,none⟩) 1 1] 115)) (w.heap.size+1) u3 us from (HR.out.alloc _).alloc _);have HI:=hQ (show ((wr.alloc (.cells #[.int .i64 (q:Int)] 3)).alloc (.cells #[.string u.text,.slice (some ⟨wr.heap.size,0,none⟩) 1 1] 115)).heap[wr.heap.size]? = some (.cells #[.int .i64 (q:Int)] 3 (0,0)) from (Below.heap_alloc _ _ _ (by simp)).trans (xH wr _))
   have HN:=hQ (xM (show ((wr.alloc (.cells #[.int .i64 (q:Int)] 3)).alloc (.cells #[.string u.text,.slice (some ⟨wr.heap.size,0,none⟩) 1 1] 115)).heap[wr.heap.size+1]? = some (.cells #[.string u.text,.slice (some ⟨wr.heap.size,0,none⟩) 1 1] 115 (0,0)) from by
    have:=xH (wr.alloc (.cells #[.int .i64 (q:Int)] 3)) (.cells #[.string u.text,.slice (some ⟨wr.heap.size,0,none⟩) 1 1] 115)
    rwa [xI] at this))
   generalize hW2:((wr.alloc (.cells #[.int .i64 (q:Int)] 3)).alloc (.cells #[.string u.text,.slice (some ⟨wr.heap.size,0,none⟩) 1 1] 115))=W2 at HW HRW HI HN
   have HW2:=hQ hW2;clear hW2 hu hkd;go_wp2_with (at_builtin;rw [HW2.out];refine Qhe _ rfl _ _ 112 rfl (w.heap.size+1) 115 ip _ 2 40 Tryz.underlying112 hip pz0 pz1 pz2 rfl (by decide) _ us.length (Qgw us) rfl HRW.out ⟨wr.heap.size+1,0,none⟩ 1 1 [.string u.text,.slice (some ⟨wr.heap.size,0,none⟩) 1 1] rfl rfl HN.out (by intro v hv;simp at hv;rcases hv with rfl | rfl <;> rfl) (by decide) (by unfold maxLen;omega) (by omega) (by have:=HW.out.size;omega) ?_;intro g3 c3 w3 hown hk hg hlt;have HO:=hQ hown;have HK:=hQ hk;clear hown hk hg hlt)
   go_roundw
   case rel =>
    have hlo:∀ k,k<w.heap.size+1→pre u3 (us.length*2) k=none:=fun k hk=>Qdp fun e=>by
     have:=(HRW.out.lt k e).1
     omega
    have hbw:Below (w.heap.size+1) W2 w3:=HK.out.below (by have:=HW.out.size;omega) hlo
    refine ⟨q,us ++ [(u.text,.slice (some ⟨wr.heap.size,0,none⟩) 1 1)],done ++ [(u.text,[(q:Int)])],_,rfl,by omega,by omega,by omega,by rw [xB,List.length_singleton];omega,?_,?_,?_,?_,?_⟩
    ·unfold Ql0;rw [xB,Qhy];exact HO.out
    ·refine (((HPP.out.step fun _ _ h=>h.keep HW.out).snoc ?_).step fun _ _ h=>h.keeps HRW.out HK.out);exact ⟨wr.heap.size,1,_,rfl,HB.out.size,HI.out,rfl⟩
    ·rw [←HDD.out,Qej,HKD.out,Option.getD_some,HTX.out,xT];rfl
    ·exact (HB.out.trans (HW.out.mono HB.out.size)).trans (hbw.mono (by omega))
    ·exact (hbw.block _ (by omega)).trans ((HW.out.block _ hbl).trans HXX.out)
   case measure=>first | (simp [intOf];done) | (simp [intOf];omega)
  ·obtain rfl:k=0:=by omega
   go_wp2
   go_ret
   exact ⟨_,rfl,us,Qij HR.out (by omega),by have h:=HDD.out;rw [Qej,List.append_nil] at h;rw [←h];exact HPP.out,HB.out⟩
def Qzg (B:Nat) (v:Value) (us:List (ByteArray × Value)) (t:Tr) (pv:Value) (i:Int) (w:World) (e:Ending) (w':World):Prop :=
 ∃ v' ws,e = .returned v'∧Ql0 w' B v' (us ++ ws)∧Keeps (pre v (us.length*2)) w w'∧Later w v v' ∧
  ((t.kind=20∧i=1∧ws = [(t.text,pv)])∨(¬(t.kind=20∧i=1)∧t.kind=2∧i=(t.kids.length:Int)-1∧ParamsAt w' w.heap.size ws (Qek t.kids))∨(¬(t.kind=20∧i=1)∧¬(t.kind=2∧i=(t.kids.length:Int)-1)∧ws = []))
theorem Keeps.after {P:Nat→Option Nat} {a b c:World} (h:Below a.heap.size a b) (h':Keeps P b c) (hp:∀ k,P k=none∨∃ n,P k=some n):Keeps P a c :=
 (Keeps.of_below (P:=P) h).trans h' fun k _=>(hp k).imp id fun ⟨n,hn⟩=>⟨n,n,hn,hn,xA _⟩
theorem hS1 {w w':World} {B:Nat} {v:Value} {us:List (ByteArray × Value)} (h:Ql0 w B v us) (hb:Below w.heap.size w w'):Ql0 w' B v us:=(Keeps.of_below (P:=fun _=>none) hb).row h fun _ _=>.inl rfl
theorem Qku (ks:List Tr):(Qek ks).length≤ks.length:=by unfold Qek;rw [Qjo];omega
theorem IB.low {w:World} {a b:Nat} {v:Value} {p:List Int} (h:IB w b v p) (hb:a≤b):IB w a v p:=by
 obtain ⟨g,c,cur,h1,h2,h3,h4⟩:=h;exact ⟨g,c,cur,h1,xQ hb h2,h3,h4⟩
theorem ParamsAt.low {w:World} {a b:Nat} {us:List (ByteArray × Value)} {ps:List Bnd} (h:ParamsAt w b us ps) (hb:a≤b):ParamsAt w a us ps:=⟨h.1,fun j y z hy hz=>⟨(h.2 j y z hy hz).1,(h.2 j y z hy hz).2.low hb⟩⟩
theorem sOne {w:World} {lo:Nat} {us:List (ByteArray × Value)} {ps:List Bnd} (h:ParamsAt w lo us ps):∀ u∈Qgw us,u.oneCell'=true:=fun u hu=>by
 unfold Qgw at hu;obtain ⟨y,hy,hu⟩:=List.mem_flatMap.1 hu;obtain ⟨j,hj⟩:=List.mem_iff_getElem?.1 hy;have hl:=(xP.1 hj).1;rw [h.1] at hl;obtain ⟨_,g,c,cur,h1,_⟩:=h.2 j y _ hj (xF hl)
 rcases List.mem_cons.1 hu with rfl | hu
 ·rfl
 ·rw [List.mem_singleton] at hu;rw [hu,h1];rfl
theorem Qzh (v:Value) (c k:Nat):pre v c k=none∨∃ n,pre v c k=some n:=by
 unfold pre
 split
 ·exact .inr ⟨c,rfl⟩
 ·exact .inl rfl
theorem Qqm (S:Nat→Prop) (B:Nat) (sv:Value) (us:List (ByteArray × Value)) (t:Tr) (v:TV) (A:Option Addr) (n c:Nat) (i:Int) (w:World) (ht:TrAt S w t v) (hs:Ql0 w B sv us) (hB:B≤w.heap.size) (hl:us.length+t.kids.length+1≤1000000) :
  Calls Tryz.prog 78 #[sv,.agg #[.int .i64 v.kind,.string v.text,.slice v.la v.ll v.lc,.slice v.ka v.kl v.kc],.slice A n c,.int .i64 i] w (Qzg B sv us t (.slice A n c) i w):=by
 obtain ⟨k,x,ls,ks⟩:=t;have hkl:v.kl=ks.length:=ht.kl.1;have htx:v.text=x:=ht.kl.2.2.2;have hkd:v.kind=k:=ht.kl.2.2.1;have hl':us.length+ks.length+1≤1000000:=hl;obtain ⟨vk,vx,vla,vll,vlc,vka,vkl,vkc⟩:=v;simp only at hkl htx hkd;subst hkl htx hkd;have HL:=hQ hl';clear hl hl';have HB0:=hQ ((xC w.heap.size w).alloc (xA _) (.cells #[.int .i64 vk,.string vx,.slice vla vll vlc,.slice vka ks.length vkc] 25));have HT:=hQ (show TrAt S (w.alloc (.cells #[.int .i64 vk,.string vx,.slice vla vll vlc,.slice vka ks.length vkc] 25)) (Tr.mk vk vx ls ks) ⟨vk,vx,vla,vll,vlc,vka,ks.length,vkc⟩ from ht.keep HB0.out);have HX:=hQ (xH w (.cells #[.int .i64 vk,.string vx,.slice vla vll vlc,.slice vka ks.length vkc] 25));have HS:=hQ (show Ql0 (w.alloc (.cells #[.int .i64 vk,.string vx,.slice vla vll vlc,.slice vka ks.length vkc] 25)) B sv us from hs.alloc _);have HBB:=hQ hB;clear ht hs hB;obtain ⟨ip,hip,pz0,pz1,pz2⟩:=info_parts Qug
 by_cases hk20:vk=20
 ·subst hk20
  by_cases hi1:i=1
  ·subst hi1;have HW:=hQ ((HB0.out).alloc HB0.out.size (.cells #[.string vx,.slice A n c] 115));have HRW:=hQ (show Ql0 ((w.alloc (.cells #[.int .i64 20,.string vx,.slice vla vll vlc,.slice vka ks.length vkc] 25)).alloc (.cells #[.string vx,.slice A n c] 115)) B sv us from HS.out.alloc _)
   have HN:=hQ (xM (show ((w.alloc (.cells #[.int .i64 20,.string vx,.slice vla vll vlc,.slice vka ks.length vkc] 25)).alloc (.cells #[.string vx,.slice A n c] 115)).heap[w.heap.size+1]? = some (.cells #[.string vx,.slice A n c] 115 (0,0)) from by
    have:=xH (w.alloc (.cells #[.int .i64 20,.string vx,.slice vla vll vlc,.slice vka ks.length vkc] 25)) (.cells #[.string vx,.slice A n c] 115)
    rwa [xI] at this))
   generalize hW2:((w.alloc (.cells #[.int .i64 20,.string vx,.slice vla vll vlc,.slice vka ks.length vkc] 25)).alloc (.cells #[.string vx,.slice A n c] 115))=W2 at HW HRW HN
   have HW2:=hQ hW2;clear hW2;have HL1:=hQ (show us.length+1≤1000000 from by have:=HL.out;omega);have HBW:=hQ (show B≤W2.heap.size from by have:=HW.out.size;have:=HBB.out;omega)
   go_enter Tryz.func78,Tryz.ntmps78
   go_wp2_with (at_builtin;rw [HW2.out];refine Qhe _ rfl _ _ 112 rfl B 115 ip _ 2 40 Tryz.underlying112 hip pz0 pz1 pz2 rfl (by decide) _ us.length (Qgw us) rfl HRW.out ⟨w.heap.size+1,0,none⟩ 1 1 [.string vx,.slice A n c] rfl rfl HN.out (by intro v hv;simp at hv;rcases hv with rfl | rfl <;> rfl) (by decide) (by have:=HL1.out;unfold maxLen;omega) (by have:=HL1.out;omega) HBW.out ?_;intro g3 c3 w3 hown hk hg hlt;have HO:=hQ hown;have HK:=hQ hk;have HG:=hQ hg;clear hown hk hg hlt)
   go_ret
   refine ⟨_,[(vx,.slice A n c)],rfl,?_,Keeps.after HW.out HK.out (Qzh _ _),?_,.inl ⟨rfl,rfl,rfl⟩⟩
   ·unfold Ql0;rw [xB,Qhy];exact HO.out
   ·intro g hg;injection hg with hg;have hg':g3=g:=hg;subst hg';exact HG.out.imp id fun h=>by have:=HW.out.size;omega
  ·have d1:decide (i=1)=false:=xR hi1
   go_enter Tryz.func78,Tryz.ntmps78
   go_wp2
   go_ret
   exact ⟨_,[],rfl,by rw [List.append_nil];exact HS.out,Keeps.of_below HB0.out,fun g hg=>.inl hg,.inr (.inr ⟨fun h=>hi1 h.2,fun h=>absurd (show (20:Int)=2 from h.1) (by decide),rfl⟩)⟩
 ·by_cases hk2:vk=2
  ·subst hk2
   by_cases hil:i=(ks.length:Int)-1
   ·subst hil;have hw:wrap64 ((ks.length:Int)-1)=(ks.length:Int)-1:=by have:=HL.out;unfold wrap64;omega
    go_enter Tryz.func78,Tryz.ntmps78
    go_wp2_with (first
     | (go_at_call 112;refine (Qnk _ _ _ _ HT.out (by have:=HL.out;show ks.length≤1000000;omega)).mono ?_;rintro e w1 ⟨r,ws,rfl,hr,hp,hb⟩;have HR:=hQ hr;have HP:=hQ hp;have HB1:=hQ hb;have HB2:=hQ (HB0.out.trans (hb.mono HB0.out.size));have HS1:=hQ (hS1 HS.out hb);clear hr hp hb)
     | (at_builtin;refine Qst _ rfl _ _ 112 rfl B _ 115 ip _ 2 40 Tryz.underlying112 hip pz0 pz1 pz2 rfl (by decide) _ us.length (Qgw us) rfl HS1.out _ ws.length (Qgw ws) rfl HR.out (sOne HP.out) (by have h1:=HL.out;have h2:=HP.out.1;have h3:=Qku ks;have h4:ws.length=(Qek ks).length:=h2;unfold maxLen;omega) (by have h1:=HL.out;have h2:=HP.out.1;have h3:=Qku ks;have h4:ws.length=(Qek ks).length:=h2;omega) (by have h1:=HBB.out;have h2:=HB2.out.size;omega) ?_;intro v3 w3 hown hk hg;have HO:=hQ hown;have HK:=hQ hk;have HG:=hQ hg;clear hown hk hg))
    go_ret
    refine ⟨_,ws,rfl,?_,Keeps.after HB2.out HK.out (Qzh _ _),fun g hg=>(HG.out g hg).imp id fun h=>by have:=HB2.out.size;omega,.inr (.inl ⟨fun h=>hk20 h.1,rfl,rfl,?_⟩)⟩
    ·unfold Ql0;rw [xB,Qhy];exact HO.out
    ·exact (show ParamsAt _ w.heap.size ws (Qek ks) from HP.out.low HB0.out.size).step fun _ _ h=>h.keeps HS1.out HK.out
   ·have hw:wrap64 ((ks.length:Int)-1)=(ks.length:Int)-1:=by have:=HL.out;unfold wrap64;omega
    have d2:(i==(ks.length:Int)-1)=false:=by simpa using hil
    have d3:decide (i=(ks.length:Int)-1)=false:=by simpa using hil
    go_enter Tryz.func78,Tryz.ntmps78
    go_wp2
    go_ret
    exact ⟨_,[],rfl,by rw [List.append_nil];exact HS.out,Keeps.of_below HB0.out,fun g hg=>.inl hg,.inr (.inr ⟨fun h=>hk20 h.1,fun h=>hil h.2,rfl⟩)⟩
  ·have d1:decide (vk=20)=false:=xR hk20;have d2:decide (vk=2)=false:=xR hk2
   go_enter Tryz.func78,Tryz.ntmps78
   go_wp2
   go_ret
   exact ⟨_,[],rfl,by rw [List.append_nil];exact HS.out,Keeps.of_below HB0.out,fun g hg=>.inl hg,.inr (.inr ⟨fun h=>hk20 h.1,fun h=>hk2 h.1,rfl⟩)⟩
end Go.Proofs.YtfjpemdejoejbaaGreat
