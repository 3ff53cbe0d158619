/- Part 31 -/
import Derived.Test.YtjidpkcjpgdafaaGreatSf30
import Derived.Deep.DeepAppendRoom
import Derived.ArgAppend
set_option maxRecDepth 100000
set_option maxHeartbeats 4000000
namespace Go.Proofs.YtjidpkcjpgdafaaGreat
open Go.RowKit Go.Shelf
structure Keeps (P:Nat→Option Nat) (w w':World):Prop where
 os:w'.os=w.os
 tape:w'.tape=w.tape
 output:w'.output=w.output
 size:w.heap.size≤w'.heap.size
 block:∀ k,k<w.heap.size→P k=none→w'.heap[k]? = w.heap[k]?
 cells:∀ k n cur t,P k=some n→w.heap[k]? = some (.cells cur t (0,0))→∃ cur',w'.heap[k]? = some (.cells cur' t (0,0))∧cur'.size=cur.size∧cur'.toList.take n=cur.toList.take n
theorem Keeps.refl (P:Nat→Option Nat) (w:World):Keeps P w w:=⟨rfl,rfl,rfl,xA _,fun _ _ _=>rfl,fun _ _ cur _ _ h=>⟨cur,h,rfl,rfl⟩⟩
theorem Keeps.of_below {P:Nat→Option Nat} {w w':World} (h:Below w.heap.size w w'):Keeps P w w':=⟨h.os,h.tape,h.output,h.size,fun k hk _=>h.block k hk,fun k _ cur _ _ hc=>⟨cur,(h.block k (Qab hc)).trans hc,rfl,rfl⟩⟩
theorem Qpd {α:Type} {m n:Nat} {a b:List α} (hmn:m≤n) (h:a.take n=b.take n):a.take m=b.take m:=by
 have:=congrArg (List.take m) h
 rwa [List.take_take,List.take_take,Nat.min_eq_left hmn] at this
def Qg0 (N:Nat) (P P':Nat→Option Nat):Prop:=∀ k,k<N→P' k=none∨∃ n m,P k=some n∧P' k=some m∧n≤m
theorem Keeps.trans {P P':Nat→Option Nat} {a b c:World} (h:Keeps P a b) (h':Keeps P' b c) (hp:Qg0 a.heap.size P P'):Keeps P a c:=by
 refine ⟨h'.os.trans h.os,h'.tape.trans h.tape,h'.output.trans h.output,xQ h.size h'.size,fun k hk hn=>?_,fun k n cur t hn hc=>?_⟩
 ·rcases hp k hk with h0|⟨_,_,h1,_⟩
  ·exact (h'.block k (xE hk h.size) h0).trans (h.block k hk hn)
  ·rw [hn] at h1;cases h1
 ·obtain ⟨c1,hc1,hs1,ht1⟩:=h.cells k n cur t hn hc
  rcases hp k (Qab hc) with h0|⟨n',m,h1,h2,h3⟩
  ·exact ⟨c1,(h'.block k (Qab hc1) h0).trans hc1,hs1,ht1⟩
  ·rw [hn] at h1
   injection h1 with h1
   subst h1
   obtain ⟨c2,hc2,hs2,ht2⟩:=h'.cells k m c1 t h2 hc1
   exact ⟨c2,hc2,hs2.trans hs1,(Qpd h3 ht2).trans ht1⟩
theorem Keeps.below {P:Nat→Option Nat} {w w':World} {B:Nat} (h:Keeps P w w') (hB:B≤w.heap.size) (hp:∀ k,k<B→P k=none):Below B w w':=⟨h.os,h.tape,h.output,h.size,fun k hk=>h.block k (xE hk hB) (hp k hk)⟩
def pre (v:Value) (c:Nat):Nat→Option Nat:=fun k=>if v.ownBlock=some k then some c else none
theorem Qg1 {v:Value} {c k:Nat} (h:v.ownBlock=some k):pre v c k=some c:=xO h
theorem Qbt {v:Value} {c k:Nat} (h:v.ownBlock≠some k):pre v c k=none:=xN h
theorem Keeps.row {P:Nat→Option Nat} {w w':World} (h:Keeps P w w') {B:Nat} {e:TypeId} {size:Nat} {v:Value} {n:Nat} {xs:List Value} (hr:w.ownsRow B e size v n xs)
  (hp:∀ k,v.ownBlock=some k→P k=none∨∃ m,P k=some m∧n*size≤m):w'.ownsRow B e size v n xs:=by
 refine ⟨hr.1,?_⟩
 rcases hr.2 with h0|⟨g,cap,cur,rfl,hb,hh,hnc,hm,hsz,htk⟩
 ·exact .inl h0
 ·rcases hp g rfl with h0|⟨m,h1,h2⟩
  ·exact .inr ⟨g,cap,cur,rfl,hb,(h.block g (Qab hh) h0).trans hh,hnc,hm,hsz,htk⟩
  ·obtain ⟨c1,hc1,hs1,ht1⟩:=h.cells g m cur e h1 hh
   exact .inr ⟨g,cap,c1,rfl,hb,hc1,hnc,hm,hs1.trans hsz,(Qpd h2 ht1).trans htk⟩
theorem Qdz {w:World} {B B':Nat} {e:TypeId} {size:Nat} {v:Value} {n:Nat} {xs:List Value} (h:w.ownsRow B e size v n xs) (hb:B'≤B):w.ownsRow B' e size v n xs :=
 ⟨h.1,h.2.imp id fun ⟨g,cap,cur,h1,h2,h3⟩=>⟨g,cap,cur,h1,xQ hb h2,h3⟩⟩
variable {P:Program}
theorem Qty (w:World) (t ty:TypeId) (B:Nat) (e:TypeId) (i:TypeInfo) (z:Value) (size bytes:Nat) (ht:P.underlying t=some (.slice e)) (hi:P.info? e=some i) (hz:i.zero=some z)
  (hsize:i.size=size) (hby:i.bytes=bytes) (hzs:z.cells.size=size) (hsz:0<size) (v:Value) (n:Nat) (xs:List Value) (hown:w.ownsRow B e size v n xs)
  (ad:Addr) (m c:Nat) (news:List Value) (hl:news.length=m*size) (hnews:∀ j u,news[j]? = some u→w.cell? (ad.add j)=some u) (h1:∀ u∈news,u.oneCell'=true)
  (hm:0<m) (h63:n+m≤maxLen) (hbytes:(n+m)*bytes≤140737488355328) (hB:B≤w.heap.size) :
  ∃ g cap w',(Builtin.append_ #[t,t] ty #[v,.slice (some ad) m c]).run P w = .ok (.slice (some ⟨g,0,none⟩) (n+m) cap) w'∧w'.ownsRow B e size (.slice (some ⟨g,0,none⟩) (n+m) cap) (n+m) (xs ++ news) ∧
   Keeps (pre v (n*size)) w w'∧(v.ownBlock=some g∨w.heap.size≤g)∧g<w'.heap.size:=by
 have old:∀ (v':Value) (w':World),w'.ownsRow w.heap.size e size v' (n+m) (xs ++ news)→w.grownBy w' none→∃ g cap,v' = .slice (some ⟨g,0,none⟩) (n+m) cap∧w'.ownsRow B e size (.slice (some ⟨g,0,none⟩) (n+m) cap) (n+m) (xs ++ news) ∧
   Keeps (pre v (n*size)) w w'∧(v.ownBlock=some g∨w.heap.size≤g)∧g<w'.heap.size:=fun v' w' r1 r2=>by
  obtain ⟨g,cap,rfl,hg,hlt⟩:=r1.form (by omega)
  exact ⟨g,cap,rfl,Qdz r1 hB,Keeps.of_below ⟨r2.os,r2.tape,r2.output,r2.size,fun k hk=>r2.block k hk (by simp)⟩,.inr hg,hlt⟩
 rcases hown.2 with ⟨rfl,rfl⟩|⟨g,cap,cur,rfl,hb,hh,hnc,hcm,hcs,htk⟩
 ·have hxs:xs = []:=List.eq_nil_of_length_eq_zero (by simpa using hown.1)
  subst hxs
  obtain ⟨v',w',hrun,r1,r2,_⟩:=run_append_own (P:=P) w w.heap.size t ty e i z size bytes ht hi hz hsize hby hzs hsz (.slice none 0 0) 0 [] (World.ownsRow_nil w _ e size) ad m c news hl hnews h1 h63 hbytes (xA _)
  obtain ⟨g,cap,rfl,q1,q2,q3,q4⟩:=old v' w' r1 r2
  exact ⟨g,cap,w',hrun,q1,q2,q3,q4⟩
 ·by_cases hroom:n+m≤cap
  ·obtain ⟨w',hr,h2,h3⟩:=run_append_own_spare (P:=P) w B t ty e i size ht hi hsize g n cap xs hown ad m c news hl hnews h1 hroom
   refine ⟨g,cap,w',hr,h2,⟨h3.os,h3.tape,h3.output,h3.size,fun k hk hp=>h3.block k hk (fun e'=>?_),fun k c2 cur2 t2 hp hk=>?_⟩,.inl rfl,xE (Qab hh) h3.size⟩
   ·injection e' with e'
    subst e'
    rw [Qg1 rfl] at hp
    cases hp
   ·by_cases hkg:k=g
    ·subst hkg
     rw [Qg1 rfl] at hp
     injection hp with hp
     subst hp
     rw [hh] at hk
     injection hk with hk
     injection hk with e1 e2
     subst e1 e2
     rcases h2.2 with ⟨h0,_⟩|⟨g',cap',cur',hv,_,hh',_,_,hs',ht'⟩
     ·cases h0
     ·injection hv with hv _ hc'
      injection hv with hv
      injection hv with hv
      subst hv hc'
      refine ⟨cur',hh',by rw [hs',hcs],?_⟩
      rw [htk]
      have:=congrArg (List.take (n*size)) ht'
      rw [List.take_take,Nat.min_eq_left (Nat.mul_le_mul_right _ (by omega)),List.take_left' hown.1] at this
      exact this
    ·rw [Qbt (by intro e';injection e' with e';exact hkg e'.symm)] at hp
     cases hp
  ·obtain ⟨v',w',hrun,r1,r2⟩:=run_append_arg_grows (P:=P) w t ty e i z size bytes ht hi hz hsize hby hzs hsz ⟨g,0,none⟩ n cap xs hown.1 (fun j u hj=>hown.cells rfl j u hj) ad m c news hl hnews (by omega) h63 hbytes
   obtain ⟨g',cap',rfl,q1,q2,q3,q4⟩:=old v' w' r1 r2
   exact ⟨g',cap',w',hrun,q1,q2,q3,q4⟩
theorem Qxh (w:World) {o:Oper} {a:Act} {K:Act→World→Prop} {Q:Exit→Act→World→Prop} (s x:Operand) (t:TypeId) (ho:o.op = .call { callee:=.builtin .append,args:=#[s,x],argTypes:=#[t,t] })
  (B:Nat) (e:TypeId) (i:TypeInfo) (z:Value) (size bytes:Nat) (ht:P.underlying t=some (.slice e)) (hi:P.info? e=some i) (hz:i.zero=some z)
  (hsize:i.size=size) (hby:i.bytes=bytes) (hzs:z.cells.size=size) (hsz:0<size) (v:Value) (n:Nat) (xs:List Value) (hs:a.eval s=v) (hown:w.ownsRow B e size v n xs)
  (ad:Addr) (m c:Nat) (news:List Value) (hx:a.eval x = .slice (some ad) m c) (hl:news.length=m*size) (hnews:∀ j u,news[j]? = some u→w.cell? (ad.add j)=some u) (h1:∀ u∈news,u.oneCell'=true)
  (hm:0<m) (h63:n+m≤maxLen) (hbytes:(n+m)*bytes≤140737488355328) (hB:B≤w.heap.size)
  (h:∀ g cap w',w'.ownsRow B e size (.slice (some ⟨g,0,none⟩) (n+m) cap) (n+m) (xs ++ news)→Keeps (pre v (n*size)) w w'→(v.ownBlock=some g∨w.heap.size≤g)→g<w'.heap.size→K (a.put o.dst (.slice (some ⟨g,0,none⟩) (n+m) cap)) w'):o.wp P a w K Q:=by
 obtain ⟨g,cap,w',hr,h2,h3,h4,h5⟩:=Qty (P:=P) w t o.type B e i z size bytes ht hi hz hsize hby hzs hsz v n xs hown ad m c news hl hnews h1 hm h63 hbytes hB
 unfold Oper.wp execOp
 simp only [ho,resolve,invoke,builtin,Sem.run_bind,Sem.run_pure,Result.andThen_ok,List.map_toArray,List.map_cons,List.map_nil,hs,hx,hr]
 exact h g cap w' h2 h3 h4 h5
theorem Qd2 (w:World) {ops:Array Oper} {rest:List Oper} {o:Oper} {a:Act} {Q:Exit→Act→World→Prop} (hgd:o.guard=none) (s x:Operand) (t:TypeId) (ho:o.op = .call { callee:=.builtin .append,args:=#[s,x],argTypes:=#[t,t] })
  (B:Nat) (e:TypeId) (i:TypeInfo) (z:Value) (size bytes:Nat) (ht:P.underlying t=some (.slice e)) (hi:P.info? e=some i) (hz:i.zero=some z)
  (hsize:i.size=size) (hby:i.bytes=bytes) (hzs:z.cells.size=size) (hsz:0<size) (v:Value) (n:Nat) (xs:List Value) (hs:a.eval s=v) (hown:w.ownsRow B e size v n xs)
  (ad:Addr) (m c:Nat) (news:List Value) (hx:a.eval x = .slice (some ad) m c) (hl:news.length=m*size) (hnews:∀ j u,news[j]? = some u→w.cell? (ad.add j)=some u) (h1:∀ u∈news,u.oneCell'=true)
  (hm:0<m) (h63:n+m≤maxLen) (hbytes:(n+m)*bytes≤140737488355328) (hB:B≤w.heap.size)
  (h:∀ g cap w',w'.ownsRow B e size (.slice (some ⟨g,0,none⟩) (n+m) cap) (n+m) (xs ++ news)→Keeps (pre v (n*size)) w w'→(v.ownBlock=some g∨w.heap.size≤g)→g<w'.heap.size→wpList P ops Q rest (a.put o.dst (.slice (some ⟨g,0,none⟩) (n+m) cap)) w'):wpList P ops Q (o :: rest) a w :=
 wpList_plain hgd fun _ hK=>Qxh w s x t ho B e i z size bytes ht hi hz hsize hby hzs hsz v n xs hs hown ad m c news hx hl hnews h1 hm h63 hbytes hB fun g cap w' q1 q2 q3 q4=>hK _ _ (h g cap w' q1 q2 q3 q4)
theorem Qv7 (w:World) {ops:Array Oper} {o:Oper} {a:Act} {K:Act→World→Prop} {Q:Exit→Act→World→Prop} {E:Prop} (hgd:o.guard=none) (s x:Operand) (t:TypeId) (ho:o.op = .call { callee:=.builtin .append,args:=#[s,x],argTypes:=#[t,t] })
  (B:Nat) (e:TypeId) (i:TypeInfo) (z:Value) (size bytes:Nat) (ht:P.underlying t=some (.slice e)) (hi:P.info? e=some i) (hz:i.zero=some z)
  (hsize:i.size=size) (hby:i.bytes=bytes) (hzs:z.cells.size=size) (hsz:0<size) (v:Value) (n:Nat) (xs:List Value) (hs:a.eval s=v) (hown:w.ownsRow B e size v n xs)
  (ad:Addr) (m c:Nat) (news:List Value) (hx:a.eval x = .slice (some ad) m c) (hl:news.length=m*size) (hnews:∀ j u,news[j]? = some u→w.cell? (ad.add j)=some u) (h1:∀ u∈news,u.oneCell'=true)
  (hm:0<m) (h63:n+m≤maxLen) (hbytes:(n+m)*bytes≤140737488355328) (hB:B≤w.heap.size)
  (h:∀ g cap w',w'.ownsRow B e size (.slice (some ⟨g,0,none⟩) (n+m) cap) (n+m) (xs ++ news)→Keeps (pre v (n*size)) w w'→(v.ownBlock=some g∨w.heap.size≤g)→g<w'.heap.size→K (a.put o.dst (.slice (some ⟨g,0,none⟩) (n+m) cap)) w') :
  if Region.wanted o (yielded ops a.tmps)=true then Oper.wp P o a w K Q else E:=by
 have hw:Region.wanted o (yielded ops a.tmps)=true:=by simp [Region.wanted,hgd]
 rw [xO hw]
 exact Qxh w s x t ho B e i z size bytes ht hi hz hsize hby hzs hsz v n xs hs hown ad m c news hx hl hnews h1 hm h63 hbytes hB h
def Later (w:World) (v v':Value):Prop:=∀ g,v'.ownBlock=some g→v.ownBlock=some g∨w.heap.size≤g
theorem Qv8 (w:World) (t ty:TypeId) (B C:Nat) (e:TypeId) (i:TypeInfo) (z:Value) (size bytes:Nat) (ht:P.underlying t=some (.slice e)) (hi:P.info? e=some i) (hz:i.zero=some z)
  (hsize:i.size=size) (hby:i.bytes=bytes) (hzs:z.cells.size=size) (hsz:0<size) (v:Value) (n:Nat) (xs:List Value) (hown:w.ownsRow B e size v n xs)
  (xv:Value) (m:Nat) (news:List Value) (hx:w.ownsRow C e size xv m news) (h1:∀ u∈news,u.oneCell'=true)
  (h63:n+m≤maxLen) (hbytes:(n+m)*bytes≤140737488355328) (hB:B≤w.heap.size) :
  ∃ v' w',(Builtin.append_ #[t,t] ty #[v,xv]).run P w = .ok v' w'∧w'.ownsRow B e size v' (n+m) (xs ++ news)∧Keeps (pre v (n*size)) w w'∧Later w v v':=by
 by_cases hm:0<m
 ·obtain ⟨g,cap,rfl,_,_⟩:=hx.form hm
  obtain ⟨g',cap',w',hr,h2,h3,h4,_⟩:=Qty (P:=P) w t ty B e i z size bytes ht hi hz hsize hby hzs hsz v n xs hown ⟨g,0,none⟩ m cap news hx.1 (hx.cells rfl) h1 hm h63 hbytes hB
  refine ⟨_,w',hr,h2,h3,fun k hk=>?_⟩
  have hk':g'=k:=by injection hk
  subst hk'
  exact h4
 ·obtain rfl:m=0:=by omega
  have hn:news = []:=List.eq_nil_of_length_eq_zero (by simpa using hx.1)
  subst hn
  have hr:(Builtin.append_ #[t,t] ty #[v,xv]).run P w = .ok v w:=by
   subst hsize
   rcases hown.2 with ⟨rfl,_⟩|⟨g,cap,cur,rfl,_,_,hnc,_⟩
   ·rcases hx.2 with ⟨rfl,_⟩|⟨g2,cap2,cur2,rfl,_⟩ <;> clear hown hx h1 <;> simp [Builtin.append_,run_underlying ht,sizeOf,typeInfo,hi,Builtin.lenOf,Builtin.firstCells,loadCells,loadCellsFrom]
   ·rcases hx.2 with ⟨rfl,_⟩|⟨g2,cap2,cur2,rfl,_⟩
    ·have hst:=run_storeCells_cells (P:=P) g (0+n*i.size) [] 0 w (by simp) (by simp) (by simp)
     simp only [Nat.add_zero,Nat.zero_add] at hst
     clear hown hx h1
     simp [Builtin.append_,run_underlying ht,sizeOf,typeInfo,hi,Builtin.lenOf,hnc,Builtin.firstCells,loadCells,Addr.add_lit,hst]
     rfl
    ·have hst:=run_append_room_cells (P:=P) w t ty e i ht hi g 0 n cap ⟨g2,0,none⟩ 0 cap2 [] (by simp) (by simp) (by simp) (by omega) (by simp) (by simp)
     rw [hst]
     rfl
  exact ⟨v,w,hr,by simpa using hown,Keeps.refl _ _,fun g hg=>.inl hg⟩
theorem Qpe (w:World) {ops:Array Oper} {rest:List Oper} {o:Oper} {a:Act} {Q:Exit→Act→World→Prop} (hgd:o.guard=none) (s x:Operand) (t:TypeId) (ho:o.op = .call { callee:=.builtin .append,args:=#[s,x],argTypes:=#[t,t] })
  (B C:Nat) (e:TypeId) (i:TypeInfo) (z:Value) (size bytes:Nat) (ht:P.underlying t=some (.slice e)) (hi:P.info? e=some i) (hz:i.zero=some z)
  (hsize:i.size=size) (hby:i.bytes=bytes) (hzs:z.cells.size=size) (hsz:0<size) (v:Value) (n:Nat) (xs:List Value) (hs:a.eval s=v) (hown:w.ownsRow B e size v n xs)
  (xv:Value) (m:Nat) (news:List Value) (hx:a.eval x=xv) (hxo:w.ownsRow C e size xv m news) (h1:∀ u∈news,u.oneCell'=true)
  (h63:n+m≤maxLen) (hbytes:(n+m)*bytes≤140737488355328) (hB:B≤w.heap.size)
  (h:∀ v' w',w'.ownsRow B e size v' (n+m) (xs ++ news)→Keeps (pre v (n*size)) w w'→Later w v v'→wpList P ops Q rest (a.put o.dst v') w'):wpList P ops Q (o :: rest) a w:=by
 refine wpList_plain hgd fun K hK=>?_
 obtain ⟨v',w',hr,h2,h3,h4⟩:=Qv8 (P:=P) w t o.type B C e i z size bytes ht hi hz hsize hby hzs hsz v n xs hown xv m news hxo h1 h63 hbytes hB
 unfold Oper.wp execOp
 simp only [ho,resolve,invoke,builtin,Sem.run_bind,Sem.run_pure,Result.andThen_ok,List.map_toArray,List.map_cons,List.map_nil,hs,hx,hr]
 exact hK _ _ (h v' w' h2 h3 h4)
end Go.Proofs.YtjidpkcjpgdafaaGreat
