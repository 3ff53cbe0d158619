/- Part 28 -/
import Derived.Test.YtfjpemdejoejbaaGreatTt26
import Derived.RangeFuncNested
import Derived.RangeFuncBound
import Derived.RangeFuncCalls
import Derived.RangeFuncLeaves
import Derived.RangeFuncBox
import Derived.Shelf.Abstract
import Derived.OwnWalkIn
import Derived.TacticsInMore
import Derived.LoopNIn
import Derived.LoopIn
import Derived.Deep.DeepAppendRoom
import Derived.ArgAppend
set_option maxRecDepth 100000
set_option maxHeartbeats 4000000
namespace Go.Proofs.YtfjpemdejoejbaaGreat
open Go.RowKit Go.Shelf
attribute [local go_sem] Oper.semAt_some
theorem Qkx:(Tryz.prog.info? 3).map (fun i=>(i.zero,i.size,i.bytes))=some (some (.int .i64 0),1,8):=by kernel_rfl
def IRow (w:World) (B:Nat) (v:Value) (p:List Int):Prop:=w.ownsRow B 3 1 v p.length (p.map (Value.int .i64))
theorem IRow.keep {w w':World} {B:Nat} {v:Value} {p:List Int} (h:IRow w B v p) (hb:Below w.heap.size w w'):IRow w' B v p:=by
 refine ⟨h.1,?_⟩
 rcases h.2 with h0|⟨g,cap,cur,hv,hb',hh,hr⟩
 ·exact .inl h0
 ·exact .inr ⟨g,cap,cur,hv,hb',(hb.block g (Qab hh)).trans hh,hr⟩
theorem IRow.ints {w:World} {B n c:Nat} {A:Option Addr} {p:List Int} (h:IRow w B (.slice A n c) p):n=p.length∧Qwb w A p:=by
 rcases h.2 with ⟨hv,h0⟩|⟨g,cap,cur,hv,hb,hh,hnc,hm,hsz,htk⟩
 ·injection hv with e1 e2 e3;exact ⟨by omega,fun hne=>absurd (List.eq_nil_of_length_eq_zero h0) hne⟩
 ·injection hv with e1 e2 e3;refine ⟨e2,fun hne=>⟨g,0,e1,Qab hh,fun i x hx=>?_⟩⟩;rw [Nat.zero_add,Lib.cell_of_heap hh];have hi:=(xP.1 hx).1;rw [←Array.getElem?_toList];have h1:(p.map (Value.int .i64))[i]? = some (.int .i64 x):=by rw [List.getElem?_map,hx];rfl
  rw [←htk,List.getElem?_take_of_lt (by omega)] at h1;exact h1
theorem Qlp (w:World) (d:Nat) (b off l c:Nat):(Op.equalIn (d+1) 35 (.slice (some ⟨b,off,none⟩) l c) (.slice none 0 0)).run Tryz.prog w = .ok false w:=by
 simp [Op.equalIn,run_underlying Tryz.underlying35]
theorem Qox (w:World) (b off l c:Nat):(binOp .eql 35 (.slice (some ⟨b,off,none⟩) l c) (.slice none 0 0)).run Tryz.prog w = .ok (.bool false) w:=by
 have h:(Op.equal 35 (.slice (some ⟨b,off,none⟩) l c) (.slice none 0 0)).run Tryz.prog w = .ok false w:=Qlp w 9999 b off l c;simp [binOp,h]
theorem Quc (A:Option Addr) (c:Nat) (p:List Int) (w:World) (hA:Qwb w A p) (h0:p≠[]) (hl:p.length≤1000000) :
  Calls Tryz.prog 77 #[.slice A p.length c] w fun e w'=>∃ v,e = .returned v∧IRow w' w.heap.size v p∧Below w.heap.size w w':=by
 obtain ⟨b,off,rfl,hb,hc⟩:=hA h0
 have hpos:0<p.length:=by cases p with
  | nil=>exact absurd rfl h0
  | cons a r=>simp
 obtain ⟨ii,hii,iz0,iz1,iz2⟩:=info_parts Qkx
 have HC:=hQ (show ∀ (j:Nat) (u:Value),(p.map (Value.int .i64))[j]? = some u→(w.alloc (.cells #[] 3)).cell? ((⟨b,off,none⟩:Addr).add j)=some u from fun j u hu=>by
  rw [List.getElem?_map,Option.map_eq_some_iff] at hu;obtain ⟨x,hx,rfl⟩:=hu;have h2:=hc j x hx;rw [Qf8];exact (xJ (w:=w) (a:=⟨b,off+j,none⟩) (Below.heap_alloc _ _ b hb)).trans h2)
 have HO:=hQ (show (w.alloc (.cells #[] 3)).ownsRow w.heap.size 3 1 (.slice (some ⟨w.heap.size,0,none⟩) 0 0) 0 [] from ⟨rfl,.inr ⟨w.heap.size,0,#[],rfl,xA _,xH w _,xA _,xZ _,rfl,rfl⟩⟩);have HSZ:=hQ (show w.heap.size≤(w.alloc (.cells #[] 3)).heap.size from by rw [xI];omega);have HB:=hQ ((xC w.heap.size w).alloc (xA _) (.cells #[] 3));have HP:=hQ hpos;have hen:=fun w=>Qox w b off p.length c
 clear hc hb h0 hpos hA
 go_enter Tryz.func77,Tryz.ntmps77
 go_wp2_with (at_builtin;refine wpList_append_lies _ rfl _ _ 35 rfl w.heap.size 3 ii _ 1 8 Tryz.underlying35 hii iz0 iz1 iz2 rfl (by decide) (.slice (some ⟨w.heap.size,0,none⟩) 0 0) 0 [] rfl HO.out ⟨b,off,none⟩ p.length c (p.map (Value.int .i64)) rfl (by simp) HC.out (fun u hu=>by obtain ⟨x,_,rfl⟩:=List.mem_map.1 hu;rfl) HP.out (by unfold maxLen;omega) (by omega) HSZ.out _ rfl ?_;intro g2 c2 w3 hown hgr _ hlt;simp only [Nat.zero_add,xU] at hown ⊢;have HR3:=hQ (show IRow w3 w.heap.size (.slice (some ⟨g2,0,none⟩) p.length c2) p from hown);have HB3:=hQ (HB.out.grown hgr HSZ.out (fun k hk=>by injection hk with hk;subst hk;exact xA _));clear hown hgr hlt)
 go_ret
 exact ⟨_,rfl,HR3.out,HB3.out⟩
theorem IRow.slice {w:World} {B:Nat} {v:Value} {p:List Int} (h:IRow w B v p):∃ A n c,v = .slice A n c:=by
 rcases h.2 with h0|⟨g,cap,cur,hv,_⟩
 ·exact ⟨_,_,_,h0.1⟩
 ·exact ⟨_,_,_,hv⟩
theorem Qwe {x y:ByteArray} (h:(x.toList==y.toList)=true):x=y:=by
 have h2:x.toList=y.toList:=by simpa using h
 rw [ByteArray.toList_eq,ByteArray.toList_eq] at h2;cases x;cases y
 simp only [ByteArray.mk.injEq];exact Array.toList_inj.1 h2
theorem Qr6 {w:World} {B:Nat} {v:Value} {p:List Int} {a:Addr} (h:IRow w B v p) (ha:a.block<B) (u:Value):IRow (w.setCell a u) B v p:=by
 refine ⟨h.1,?_⟩
 rcases h.2 with h0|⟨g,cap,cur,hv,hb',hh,hr⟩
 ·exact .inl h0
 ·exact .inr ⟨g,cap,cur,hv,hb',(heap_setCell_other w a g u (by omega)).trans hh,hr⟩
structure Keeps (P:Nat→Option Nat) (w w':World):Prop where
 os:w'.os=w.os
 tape:w'.tape=w.tape
 output:w'.output=w.output
 size:w.heap.size≤w'.heap.size
 block:∀ k,k<w.heap.size→P k=none→w'.heap[k]? = w.heap[k]?
 cells:∀ k n cur t,P k=some n→w.heap[k]? = some (.cells cur t (0,0))→∃ cur',w'.heap[k]? = some (.cells cur' t (0,0))∧cur'.size=cur.size∧cur'.toList.take n=cur.toList.take n
theorem Keeps.refl (P:Nat→Option Nat) (w:World):Keeps P w w:=⟨rfl,rfl,rfl,xA _,fun _ _ _=>rfl,fun _ _ cur _ _ h=>⟨cur,h,rfl,rfl⟩⟩
theorem Keeps.of_below {P:Nat→Option Nat} {w w':World} (h:Below w.heap.size w w'):Keeps P w w':=⟨h.os,h.tape,h.output,h.size,fun k hk _=>h.block k hk,fun k _ cur _ _ hc=>⟨cur,(h.block k (Qab hc)).trans hc,rfl,rfl⟩⟩
theorem Qw8 {α:Type} {m n:Nat} {a b:List α} (hmn:m≤n) (h:a.take n=b.take n):a.take m=b.take m:=by
 have:=congrArg (List.take m) h
 rwa [List.take_take,List.take_take,Nat.min_eq_left hmn] at this
def Qhi (N:Nat) (P P':Nat→Option Nat):Prop:=∀ k,k<N→P' k=none∨∃ n m,P k=some n∧P' k=some m∧n≤m
theorem Keeps.trans {P P':Nat→Option Nat} {a b c:World} (h:Keeps P a b) (h':Keeps P' b c) (hp:Qhi a.heap.size P P'):Keeps P a c:=by
 refine ⟨h'.os.trans h.os,h'.tape.trans h.tape,h'.output.trans h.output,xQ h.size h'.size,fun k hk hn=>?_,fun k n cur t hn hc=>?_⟩
 ·rcases hp k hk with h0|⟨_,_,h1,_⟩
  ·exact (h'.block k (xE hk h.size) h0).trans (h.block k hk hn)
  ·rw [hn] at h1;cases h1
 ·obtain ⟨c1,hc1,hs1,ht1⟩:=h.cells k n cur t hn hc
  rcases hp k (Qab hc) with h0|⟨n',m,h1,h2,h3⟩
  ·exact ⟨c1,(h'.block k (Qab hc1) h0).trans hc1,hs1,ht1⟩
  ·rw [hn] at h1;injection h1 with h1;subst h1;obtain ⟨c2,hc2,hs2,ht2⟩:=h'.cells k m c1 t h2 hc1;exact ⟨c2,hc2,hs2.trans hs1,(Qw8 h3 ht2).trans ht1⟩
theorem Keeps.below {P:Nat→Option Nat} {w w':World} {B:Nat} (h:Keeps P w w') (hB:B≤w.heap.size) (hp:∀ k,k<B→P k=none):Below B w w':=⟨h.os,h.tape,h.output,h.size,fun k hk=>h.block k (xE hk hB) (hp k hk)⟩
def pre (v:Value) (c:Nat):Nat→Option Nat:=fun k=>if v.ownBlock=some k then some c else none
theorem Qka {v:Value} {c k:Nat} (h:v.ownBlock=some k):pre v c k=some c:=xO h
theorem Qb8 {v:Value} {c k:Nat} (h:v.ownBlock≠some k):pre v c k=none:=xN h
theorem Keeps.row {P:Nat→Option Nat} {w w':World} (h:Keeps P w w') {B:Nat} {e:TypeId} {size:Nat} {v:Value} {n:Nat} {xs:List Value} (hr:w.ownsRow B e size v n xs)
  (hp:∀ k,v.ownBlock=some k→P k=none∨∃ m,P k=some m∧n*size≤m):w'.ownsRow B e size v n xs:=by
 refine ⟨hr.1,?_⟩
 rcases hr.2 with h0|⟨g,cap,cur,rfl,hb,hh,hnc,hm,hsz,htk⟩
 ·exact .inl h0
 ·rcases hp g rfl with h0|⟨m,h1,h2⟩
  ·exact .inr ⟨g,cap,cur,rfl,hb,(h.block g (Qab hh) h0).trans hh,hnc,hm,hsz,htk⟩
  ·obtain ⟨c1,hc1,hs1,ht1⟩:=h.cells g m cur e h1 hh;exact .inr ⟨g,cap,c1,rfl,hb,hc1,hnc,hm,hs1.trans hsz,(Qw8 h2 ht1).trans htk⟩
theorem Qfy {w:World} {B B':Nat} {e:TypeId} {size:Nat} {v:Value} {n:Nat} {xs:List Value} (h:w.ownsRow B e size v n xs) (hb:B'≤B):w.ownsRow B' e size v n xs :=
 ⟨h.1,h.2.imp id fun ⟨g,cap,cur,h1,h2,h3⟩=>⟨g,cap,cur,h1,xQ hb h2,h3⟩⟩
variable {P:Program}
theorem Zdf (w:World) (t ty:TypeId) (B:Nat) (e:TypeId) (i:TypeInfo) (z:Value) (size bytes:Nat) (ht:P.underlying t=some (.slice e)) (hi:P.info? e=some i) (hz:i.zero=some z)
  (hsize:i.size=size) (hby:i.bytes=bytes) (hzs:z.cells.size=size) (hsz:0<size) (v:Value) (n:Nat) (xs:List Value) (hown:w.ownsRow B e size v n xs)
  (ad:Addr) (m c:Nat) (news:List Value) (hl:news.length=m*size) (hnews:∀ j u,news[j]? = some u→w.cell? (ad.add j)=some u) (h1:∀ u∈news,u.oneCell'=true)
  (hm:0<m) (h63:n+m≤maxLen) (hbytes:(n+m)*bytes≤140737488355328) (hB:B≤w.heap.size) :
  ∃ g cap w',(Builtin.append_ #[t,t] ty #[v,.slice (some ad) m c]).run P w = .ok (.slice (some ⟨g,0,none⟩) (n+m) cap) w'∧w'.ownsRow B e size (.slice (some ⟨g,0,none⟩) (n+m) cap) (n+m) (xs ++ news) ∧
   Keeps (pre v (n*size)) w w'∧(v.ownBlock=some g∨w.heap.size≤g)∧g<w'.heap.size:=by
 have old:∀ (v':Value) (w':World),w'.ownsRow w.heap.size e size v' (n+m) (xs ++ news)→w.grownBy w' none→∃ g cap,v' = .slice (some ⟨g,0,none⟩) (n+m) cap∧w'.ownsRow B e size (.slice (some ⟨g,0,none⟩) (n+m) cap) (n+m) (xs ++ news) ∧
   Keeps (pre v (n*size)) w w'∧(v.ownBlock=some g∨w.heap.size≤g)∧g<w'.heap.size:=fun v' w' r1 r2=>by
  obtain ⟨g,cap,rfl,hg,hlt⟩:=r1.form (by omega);exact ⟨g,cap,rfl,Qfy r1 hB,Keeps.of_below ⟨r2.os,r2.tape,r2.output,r2.size,fun k hk=>r2.block k hk (by simp)⟩,.inr hg,hlt⟩
 rcases hown.2 with ⟨rfl,rfl⟩|⟨g,cap,cur,rfl,hb,hh,hnc,hcm,hcs,htk⟩
 ·have hxs:xs = []:=List.eq_nil_of_length_eq_zero (by simpa using hown.1);subst hxs;obtain ⟨v',w',hrun,r1,r2,_⟩:=run_append_own (P:=P) w w.heap.size t ty e i z size bytes ht hi hz hsize hby hzs hsz (.slice none 0 0) 0 [] (World.ownsRow_nil w _ e size) ad m c news hl hnews h1 h63 hbytes (xA _);obtain ⟨g,cap,rfl,q1,q2,q3,q4⟩:=old v' w' r1 r2;exact ⟨g,cap,w',hrun,q1,q2,q3,q4⟩
 ·by_cases hroom:n+m≤cap
  ·obtain ⟨w',hr,h2,h3⟩:=run_append_own_spare (P:=P) w B t ty e i size ht hi hsize g n cap xs hown ad m c news hl hnews h1 hroom
   refine ⟨g,cap,w',hr,h2,⟨h3.os,h3.tape,h3.output,h3.size,fun k hk hp=>h3.block k hk (fun e'=>?_),fun k c2 cur2 t2 hp hk=>?_⟩,.inl rfl,xE (Qab hh) h3.size⟩
   ·injection e' with e';subst e';rw [Qka rfl] at hp;cases hp
   ·by_cases hkg:k=g
    ·subst hkg;rw [Qka rfl] at hp;injection hp with hp;subst hp;rw [hh] at hk;injection hk with hk;injection hk with e1 e2;subst e1 e2
     rcases h2.2 with ⟨h0,_⟩|⟨g',cap',cur',hv,_,hh',_,_,hs',ht'⟩
     ·cases h0
     ·injection hv with hv _ hc';injection hv with hv;injection hv with hv;subst hv hc';refine ⟨cur',hh',by rw [hs',hcs],?_⟩;rw [htk];have:=congrArg (List.take (n*size)) ht'
      rw [List.take_take,Nat.min_eq_left (Nat.mul_le_mul_right _ (by omega)),List.take_left' hown.1] at this;exact this
    ·rw [Qb8 (by intro e';injection e' with e';exact hkg e'.symm)] at hp;cases hp
  ·obtain ⟨v',w',hrun,r1,r2⟩:=run_append_arg_grows (P:=P) w t ty e i z size bytes ht hi hz hsize hby hzs hsz ⟨g,0,none⟩ n cap xs hown.1 (fun j u hj=>hown.cells rfl j u hj) ad m c news hl hnews (by omega) h63 hbytes;obtain ⟨g',cap',rfl,q1,q2,q3,q4⟩:=old v' w' r1 r2;exact ⟨g',cap',w',hrun,q1,q2,q3,q4⟩
theorem Zbt (w:World) {o:Oper} {a:Act} {K:Act→World→Prop} {Q:Exit→Act→World→Prop} (s x:Operand) (t:TypeId) (ho:o.op = .call { callee:=.builtin .append,args:=#[s,x],argTypes:=#[t,t] })
  (B:Nat) (e:TypeId) (i:TypeInfo) (z:Value) (size bytes:Nat) (ht:P.underlying t=some (.slice e)) (hi:P.info? e=some i) (hz:i.zero=some z)
  (hsize:i.size=size) (hby:i.bytes=bytes) (hzs:z.cells.size=size) (hsz:0<size) (v:Value) (n:Nat) (xs:List Value) (hs:a.eval s=v) (hown:w.ownsRow B e size v n xs)
  (ad:Addr) (m c:Nat) (news:List Value) (hx:a.eval x = .slice (some ad) m c) (hl:news.length=m*size) (hnews:∀ j u,news[j]? = some u→w.cell? (ad.add j)=some u) (h1:∀ u∈news,u.oneCell'=true)
  (hm:0<m) (h63:n+m≤maxLen) (hbytes:(n+m)*bytes≤140737488355328) (hB:B≤w.heap.size)
  (h:∀ g cap w',w'.ownsRow B e size (.slice (some ⟨g,0,none⟩) (n+m) cap) (n+m) (xs ++ news)→Keeps (pre v (n*size)) w w'→(v.ownBlock=some g∨w.heap.size≤g)→g<w'.heap.size→K (a.put o.dst (.slice (some ⟨g,0,none⟩) (n+m) cap)) w'):o.wp P a w K Q:=by
 obtain ⟨g,cap,w',hr,h2,h3,h4,h5⟩:=Zdf (P:=P) w t o.type B e i z size bytes ht hi hz hsize hby hzs hsz v n xs hown ad m c news hl hnews h1 hm h63 hbytes hB;unfold Oper.wp execOp;simp only [ho,resolve,invoke,builtin,Sem.run_bind,Sem.run_pure,Result.andThen_ok,List.map_toArray,List.map_cons,List.map_nil,hs,hx,hr];exact h g cap w' h2 h3 h4 h5
theorem Qec (w:World) {ops:Array Oper} {rest:List Oper} {o:Oper} {a:Act} {Q:Exit→Act→World→Prop} (hgd:o.guard=none) (s x:Operand) (t:TypeId) (ho:o.op = .call { callee:=.builtin .append,args:=#[s,x],argTypes:=#[t,t] })
  (B:Nat) (e:TypeId) (i:TypeInfo) (z:Value) (size bytes:Nat) (ht:P.underlying t=some (.slice e)) (hi:P.info? e=some i) (hz:i.zero=some z)
  (hsize:i.size=size) (hby:i.bytes=bytes) (hzs:z.cells.size=size) (hsz:0<size) (v:Value) (n:Nat) (xs:List Value) (hs:a.eval s=v) (hown:w.ownsRow B e size v n xs)
  (ad:Addr) (m c:Nat) (news:List Value) (hx:a.eval x = .slice (some ad) m c) (hl:news.length=m*size) (hnews:∀ j u,news[j]? = some u→w.cell? (ad.add j)=some u) (h1:∀ u∈news,u.oneCell'=true)
  (hm:0<m) (h63:n+m≤maxLen) (hbytes:(n+m)*bytes≤140737488355328) (hB:B≤w.heap.size)
  (h:∀ g cap w',w'.ownsRow B e size (.slice (some ⟨g,0,none⟩) (n+m) cap) (n+m) (xs ++ news)→Keeps (pre v (n*size)) w w'→(v.ownBlock=some g∨w.heap.size≤g)→g<w'.heap.size→wpList P ops Q rest (a.put o.dst (.slice (some ⟨g,0,none⟩) (n+m) cap)) w'):wpList P ops Q (o :: rest) a w :=
 wpList_plain hgd fun _ hK=>Zbt w s x t ho B e i z size bytes ht hi hz hsize hby hzs hsz v n xs hs hown ad m c news hx hl hnews h1 hm h63 hbytes hB fun g cap w' q1 q2 q3 q4=>hK _ _ (h g cap w' q1 q2 q3 q4)
theorem Qsh (w:World) {ops:Array Oper} {o:Oper} {a:Act} {K:Act→World→Prop} {Q:Exit→Act→World→Prop} {E:Prop} (hgd:o.guard=none) (s x:Operand) (t:TypeId) (ho:o.op = .call { callee:=.builtin .append,args:=#[s,x],argTypes:=#[t,t] })
  (B:Nat) (e:TypeId) (i:TypeInfo) (z:Value) (size bytes:Nat) (ht:P.underlying t=some (.slice e)) (hi:P.info? e=some i) (hz:i.zero=some z)
  (hsize:i.size=size) (hby:i.bytes=bytes) (hzs:z.cells.size=size) (hsz:0<size) (v:Value) (n:Nat) (xs:List Value) (hs:a.eval s=v) (hown:w.ownsRow B e size v n xs)
  (ad:Addr) (m c:Nat) (news:List Value) (hx:a.eval x = .slice (some ad) m c) (hl:news.length=m*size) (hnews:∀ j u,news[j]? = some u→w.cell? (ad.add j)=some u) (h1:∀ u∈news,u.oneCell'=true)
  (hm:0<m) (h63:n+m≤maxLen) (hbytes:(n+m)*bytes≤140737488355328) (hB:B≤w.heap.size)
  (h:∀ g cap w',w'.ownsRow B e size (.slice (some ⟨g,0,none⟩) (n+m) cap) (n+m) (xs ++ news)→Keeps (pre v (n*size)) w w'→(v.ownBlock=some g∨w.heap.size≤g)→g<w'.heap.size→K (a.put o.dst (.slice (some ⟨g,0,none⟩) (n+m) cap)) w') :
  if Region.wanted o (yielded ops a.tmps)=true then Oper.wp P o a w K Q else E:=by
 have hw:Region.wanted o (yielded ops a.tmps)=true:=by simp [Region.wanted,hgd]
 rw [xO hw];exact Zbt w s x t ho B e i z size bytes ht hi hz hsize hby hzs hsz v n xs hs hown ad m c news hx hl hnews h1 hm h63 hbytes hB h
def Later (w:World) (v v':Value):Prop:=∀ g,v'.ownBlock=some g→v.ownBlock=some g∨w.heap.size≤g
end Go.Proofs.YtfjpemdejoejbaaGreat
