/- Part 36 -/
import Derived.Test.YtjidpkcjpgdafaaGreatSe35
import Derived.Test.YtjidpkcjpgdafaaGreatSe28
import Derived.Lib.AppendZerosOnto
import Derived.Lib.Walk
import Derived.Lib.SliceRun
set_option maxRecDepth 100000
set_option maxHeartbeats 4000000
namespace Go.Proofs.YtjidpkcjpgdafaaGreat
open Go.RowKit Go.Shelf
theorem Qub:(Tryz.prog.info? 3).map (fun i=>(i.zero,i.size,i.bytes))=some (some (.int .i64 0),1,8):=by kernel_rfl
section
variable {P:Program} {w:World} {ops:Array Oper} {rest:List Oper} {o:Oper} {a:Act} {Q:Exit→Act→World→Prop}
theorem Qc8 (hgd:o.guard=none) (s x:Operand) (t:TypeId)
  (ho:o.op = .call { callee:=.builtin .append,args:=#[s,x],argTypes:=#[t,t] }) (e:TypeId) (i:TypeInfo) (ht:P.underlying t=some (.slice e)) (hi:P.info? e=some i)
  {ad:Addr} {n cap:Nat} (hs:a.eval s = .slice (some ad) n cap) (hn:n≤cap) {A:Option Addr} {m c:Nat} (hm:m=0) (hx:a.eval x = .slice A m c) (h:wpList P ops Q rest (a.put o.dst (.slice (some ad) n cap)) w):wpList P ops Q (o :: rest) a w:=by
 subst hm;refine wpList_plain hgd fun K hK=>?_
 have hr:(Builtin.append_ #[t,t] o.type #[.slice (some ad) n cap,.slice A 0 c]).run P w = .ok (.slice (some ad) n cap) w:=by
  cases A <;> simp [Builtin.append_,run_underlying ht,sizeOf,typeInfo,hi,Builtin.lenOf,Builtin.firstCells,loadCells,loadCellsFrom,hn,storeCells]
 unfold Oper.wp execOp;simp only [ho,resolve,invoke,builtin,Sem.run_bind,Sem.run_pure,Result.andThen_ok,List.map_toArray,List.map_cons,List.map_nil,hs,hx,hr];exact hK _ _ h
end
def IntRow (w:World) (B:Nat) (v:Value) (p:List Int):Prop:=w.ownsRow B 3 1 v p.length (p.map (Value.int .i64))
theorem IntRow.cells {w:World} {B n c:Nat} {A:Option Addr} {p:List Int} (h:IntRow w B (.slice A n c) p) (hp:0<p.length):∃ g,A=some ⟨g,0,none⟩∧∀ (j:Nat) (u:Value),(p.map (Value.int .i64))[j]? = some u→w.cell? ⟨g,0+j,none⟩=some u:=by
 rcases h.2 with ⟨_,h0⟩|⟨g,cap,cur,hv,hb,hh,hnc,hm,hsz,htk⟩
 ·omega
 ·injection hv with e1 e2 e3;refine ⟨g,e1,fun j u hu=>?_⟩;rw [Nat.zero_add,Lib.cell_of_heap hh];have hj:=(xP.1 hu).1;rw [List.length_map] at hj;rw [←htk,List.getElem?_take_of_lt (by omega)] at hu;rw [←Array.getElem?_toList];exact hu
theorem Qg1 {w:World} {B n size:Nat} {T:TypeId} {v:Value} {xs:List Value} (h:w.ownsRow B T size v n xs):∀ k,v.ownBlock=some k→B≤k:=fun k hk=>by
 rcases h.2 with ⟨hv,_⟩|⟨g,_,_,hv,hb,_⟩
 ·subst hv;cases hk
 ·subst hv;injection hk with hk;subst hk;exact hb
theorem Qgd (p:List Int):∀ u∈p.map (Value.int .i64),u.oneCell'=true:=by
 intro u hu;obtain ⟨x,_,rfl⟩:=List.mem_map.1 hu;rfl
end Go.Proofs.YtjidpkcjpgdafaaGreat
namespace Go.Proofs.YtjidpkcjpgdafaaGreat
open Go.RowKit
theorem RowIs.at {w:World} {g:Nat} {cs:Array Value} {us:List TV} (hc:w.heap[g]? = some (.cells cs 29 (0,0))) (h:RowIs cs us) {i:Nat} {u:TV} (hu:us[i]? = some u):Zfa w g (i*4) u:=by
 obtain ⟨q0,q1,q2,q3⟩:=h i u hu;exact ⟨Qab hc _ _ q0,Qab hc _ _ q1,Qab hc _ _ q2,Qab hc _ _ q3⟩
def Zbl (w:World) (b o:Nat) (y:TV):World:=(((w.setCell ⟨b,o,none⟩ (.int .i64 y.kind)).setCell ⟨b,o+1,none⟩ (.string y.text)).setCell ⟨b,o+2,none⟩ (.slice y.la y.ll y.lc)).setCell ⟨b,o+3,none⟩ (.slice y.ka y.kl y.kc)
def Zd8 (cs:Array Value) (o:Nat) (y:TV):Array Value:=(((cs.setIfInBounds o (.int .i64 y.kind)).setIfInBounds (o+1) (.string y.text)).setIfInBounds (o+2) (.slice y.la y.ll y.lc)).setIfInBounds (o+3) (.slice y.ka y.kl y.kc)
theorem Qne {w:World} {b:Nat} {cs:Array Value} {T:TypeId} (o:Nat) (y:TV) (h:w.heap[b]? = some (.cells cs T (0,0))):(Zbl w b o y).heap[b]? = some (.cells (Zd8 cs o y) T (0,0)):=Qa2 (Qa2 (Qa2 (Qa2 h rfl) rfl) rfl) rfl
theorem Qen {w:World} {b k:Nat} (o:Nat) (y:TV) (h:k≠b):(Zbl w b o y).heap[k]? = w.heap[k]?:=(((Qav h).trans (Qav h)).trans (Qav h)).trans (Qav h)
theorem Qnf (w:World) (b o:Nat) (y:TV):(Zbl w b o y).heap.size=w.heap.size:=by simp [Zbl,World.setCell]
theorem Qwk (w:World) {B b:Nat} (o:Nat) (y:TV) (h:B≤b):Below B w (Zbl w b o y):=((((xC B w).setCell (p:=⟨b,o,none⟩) h _).setCell (p:=⟨b,o+1,none⟩) h _).setCell (p:=⟨b,o+2,none⟩) h _).setCell (p:=⟨b,o+3,none⟩) h _
theorem Zah (cs:Array Value) (o:Nat) (y:TV):(Zd8 cs o y).size=cs.size:=by simp [Zd8]
theorem Qiw (cs:Array Value) (o:Nat) (y:TV) (q:Nat) (h:q<o∨o+4≤q):(Zd8 cs o y)[q]? = cs[q]?:=by
 unfold Zd8;rw [xY (by omega),xY (by omega),xY (by omega),xY (by omega)]
end Go.Proofs.YtjidpkcjpgdafaaGreat
namespace Go.Proofs.YtjidpkcjpgdafaaGreat
open Go.RowKit Go.Shelf
mutual
def Qhi:Tr→List Int→List (List Int)
 | .mk _ _ _ ks,p=>p :: Qei ks 0 p
def Qei:List Tr→Nat→List Int→List (List Int)
 | [],_,_=>[]
 | t :: r,i,p=>Qhi t (p ++ [(i:Int)]) ++ Qei r (i+1) p
end
theorem Zai (t:Tr) (p:List Int):Qhi t p=p :: Qei t.kids 0 p:=by cases t;rw [Qhi];rfl
theorem Qng (t:Tr) (p:List Int):(l:List Tr)→(i:Nat)→Qei (l ++ [t]) i p=Qei l i p ++ Qhi t (p ++ [((i+l.length:Nat):Int)])
 | [],i=>by rw [xU,Qei,Qei,Qei,List.append_nil,xU];rfl
 | a :: r,i=>by
  rw [xV,Qei,Qei,Qng t p r (i+1),xT,xD,show i+1+r.length=i+(r.length+1) from by omega]
mutual
theorem Qk0:(t:Tr)→(p:List Int)→(Qhi t p).length=Qal t
 | .mk _ _ _ ks,p=>by rw [Qhi,Qal,xD,Qk1 ks 0 p];omega
theorem Qk1:(l:List Tr)→(i:Nat)→(p:List Int)→(Qei l i p).length=Qao l
 | [],_,_=>by rw [Qei,Qao];rfl
 | t :: r,i,p=>by rw [Qei,Qao,xB,Qk0 t,Qk1 r]
end
structure PStep (B lb:Nat) (w w':World):Prop where
 os:w'.os=w.os
 tape:w'.tape=w.tape
 output:w'.output=w.output
 size:w.heap.size≤w'.heap.size
 block:∀ k,k<w.heap.size→k≠lb→(k<B∨∀ cs,w.heap[k]?≠some (.cells cs 23 (0,0)))→w'.heap[k]? = w.heap[k]?
theorem PStep.trans {B lb:Nat} {u v w:World} (h:PStep B lb u v) (k:PStep B lb v w):PStep B lb u w :=
 ⟨k.os.trans h.os,k.tape.trans h.tape,k.output.trans h.output,xQ h.size k.size,fun i hi hl hc=>by
  have h1:=h.block i hi hl hc;exact (k.block i (xE hi h.size) hl (hc.imp id fun hn cs=>by rw [h1];exact hn cs)).trans h1⟩
theorem PStep.below {B lb:Nat} {w w':World} (h:Below w.heap.size w w'):PStep B lb w w':=⟨h.os,h.tape,h.output,h.size,fun k hk _ _=>h.block k hk⟩
theorem PStep.grown {B lb n:Nat} {w w':World} {L:Value} {vs:List Value} (h:w.ownsRow B 23 1 L n vs) (hg:w.grownBy w' L.ownBlock):PStep B lb w w' :=
 ⟨hg.os,hg.tape,hg.output,hg.size,fun k hk _ hc=>hg.block k hk fun e=>by
  rcases h.2 with ⟨hv,_⟩|⟨g,cap,cur,hv,hb,hh,_⟩
  ·rw [hv] at e;cases e
  ·rw [hv] at e;injection e with e;subst e
   rcases hc with hc | hc
   ·exact absurd hb (Nat.not_le_of_lt hc)
   ·exact hc cur hh⟩
theorem PStep.down {B lb:Nat} {w w':World} (h:PStep B lb w w') (hl:B≤lb) (hB:B≤w.heap.size):Below B w w':=⟨h.os,h.tape,h.output,h.size,fun k hk=>h.block k (xE hk hB) (by omega) (.inl hk)⟩
theorem PStep.other {B lb k:Nat} {w w':World} {cs:Array Value} {T:TypeId} (h:PStep B lb w w') (hk:w.heap[k]? = some (.cells cs T (0,0))) (hl:k≠lb) (hT:T≠23):w'.heap[k]? = some (.cells cs T (0,0)) :=
 (h.block k (Qaa hk) hl (.inr fun cs' e=>by rw [hk] at e;injection e with e;injection e with _ e;exact hT e)).trans hk
theorem Qhz {B size n:Nat} {w w':World} {T:TypeId} {v:Value} {xs:List Value} (h:w.ownsRow B T size v n xs) (hb:Below w.heap.size w w'):w'.ownsRow B T size v n xs:=by
 refine ⟨h.1,?_⟩
 rcases h.2 with h0|⟨g,cap,cur,hv,hb',hh,hr⟩
 ·exact .inl h0
 ·exact .inr ⟨g,cap,cur,hv,hb',(hb.block g (Qaa hh)).trans hh,hr⟩
theorem Qfs {B B' size n:Nat} {w:World} {T:TypeId} {v:Value} {xs:List Value} (h:w.ownsRow B T size v n xs) (hB:B'≤B):w.ownsRow B' T size v n xs:=by
 refine ⟨h.1,?_⟩
 rcases h.2 with h0|⟨g,cap,cur,hv,hb',hr⟩
 ·exact .inl h0
 ·exact .inr ⟨g,cap,cur,hv,xQ hB hb',hr⟩
theorem Qk2 (w:World) (a b:Obj):((w.alloc a).alloc b).heap[w.heap.size]? = some a∧((w.alloc a).alloc b).heap[w.heap.size+1]? = some b :=
 ⟨(Below.heap_alloc _ _ _ (by rw [xI];omega)).trans (xH w a),by rw [←xI w a];exact xH _ _⟩
theorem Qwl:(Tryz.prog.info? 23).map (fun i=>(i.zero,i.size,i.bytes))=some (some (.slice none 0 0),1,24):=by kernel_rfl
theorem Qs6 {B n k:Nat} {w w':World} {L:Value} {vs:List Value} {cs:Array Value} {T:TypeId} (h:w.ownsRow B 23 1 L n vs) (hg:w.grownBy w' L.ownBlock) (hk:w.heap[k]? = some (.cells cs T (0,0))) (hT:T≠23):w'.heap[k]? = some (.cells cs T (0,0)) :=
 (hg.block k (Qaa hk) (fun e=>by
  rcases h.2 with ⟨hv,_⟩|⟨g,cap,cur,hv,hb,hh,_⟩
  ·rw [hv] at e;cases e
  ·rw [hv] at e;injection e with e;subst e;rw [hk] at hh;injection hh with hh;injection hh with _ hh;exact hT hh)).trans hk
theorem Qrc:(l:List Tr)→(j:Nat)→(k:Tr)→l[j]? = some k→Qao (l.take j)+Qal k≤Qao l
 | [],_,_,h=>by simp at h
 | a :: r,0,k,h=>by
  simp at h
  subst h;rw [List.take_zero,Qao,Qao];omega
 | a :: r,j+1,k,h=>by
  have:=Qrc r j k (by simpa using h)
  rw [List.take_succ_cons,Qao,Qao];omega
theorem Quc {t k:Tr} {j:Nat} (h:t.kids[j]? = some k):Qao (t.kids.take j)+Qal k≤Qao t.kids:=Qrc _ _ _ h
theorem Qnh {t k:Tr} {j:Nat} (h:t.kids[j]? = some k):1+Qal k≤Qal t:=by
 have h1:=Quc h;rw [Qa0 t];omega
def PsAt (w:World) (B:Nat) (L:Value) (ps:List (List Int)):Prop :=
 ∃ vs:List Value,w.ownsRow B 23 1 L ps.length vs∧∀ (i:Nat) (v:Value) (p:List Int),vs[i]? = some v→ps[i]? = some p→IntRow w B v p
theorem PsAt.keep {w w':World} {B:Nat} {L:Value} {ps:List (List Int)} (h:PsAt w B L ps) (hb:Below w.heap.size w w'):PsAt w' B L ps:=by
 obtain ⟨vs,h1,h2⟩:=h;exact ⟨vs,Qhz h1 hb,fun i v p hv hp=>Qhz (h2 i v p hv hp) hb⟩
theorem Zav {n:Int} (h:0≤n):Qat 1 n=3:=by
 unfold Qat;rw [xO rfl,xO h]
theorem Qwu {n:Int} (h:0≤Qat 2 n):6≤Qat 2 n:=by
 unfold Qat at h ⊢;rw [xN (by decide),xO rfl] at h ⊢
 split at h <;> (rw [Int.max_def] at *;repeat' split) <;> omega
theorem Zaw {k n:Int} (hk:k=4∨k=8∨k=22) (h:0≤Qat k n):Qat k n=2:=by
 rcases hk with rfl | rfl | rfl <;> (unfold Qat Qbb at h ⊢;simp at h ⊢;omega)
theorem Qwv {k n:Int} (hk:k≠17) (h:0≤Qat k n):1≤Qat k n:=by
 unfold Qat Qbb at h ⊢;simp only [Int.max_def] at h ⊢
 repeat' split at h
 all_goals first | omega | (simp_all;done) | (simp_all;omega)
theorem Qww {k n:Int} (h:0≤n):Qat k n≤n+6:=by
 unfold Qat Qbb;simp only [Int.max_def]
 repeat' split
 all_goals omega
theorem Qlm (k:Int) (n:Nat):∀ (l:List Tr) (i j:Nat) (a:Tr),Qcm k n i l=true→l[j]? = some a→Qcv a=true
 | [],_,j,a,_,h=>by simp at h
 | t :: r,i,j,a,hs,h=>by
  rw [Qcm,Bool.and_eq_true,Bool.and_eq_true] at hs;cases j with
  | zero=>simp at h;subst h;exact hs.1.2
  | succ j=>exact Qlm k n r (i+1) j a hs.2 (by simpa using h)
theorem Qkb {t:Tr} (h:Qcv t=true):0≤Qat t.kind t.kids.length∧∀ (j:Nat) (k:Tr),t.kids[j]? = some k→Qcv k=true:=by
 rw [Qhg,Bool.and_eq_true,Bool.and_eq_true] at h;exact ⟨by have:=h.1.1;simp at this;omega,fun j k hk=>Qlm _ _ _ 0 j k h.2 hk⟩
theorem Qwx (n:Nat) (w:World) (hn:n≤1000000):Calls Tryz.prog 211 #[.int .i64 n] w fun e w'=>∃ r,e = .returned r∧w'.ownsRow w.heap.size 9 1 r n ((List.replicate n (⟨#[32]⟩:ByteArray)).map Value.string)∧Below w.heap.size w w':=by
 have HN:=hQ hn;obtain ⟨is,his,s0,s1,s2⟩:=info_parts Qde
 go_enter Tryz.func211,Tryz.ntmps211
 go_wp2
 go_loopw [3,4] (fun l i wr=>∃ j:Nat,i = .int .i64 j∧j≤n∧wr.ownsRow w.heap.size 9 1 l j ((List.replicate j (⟨#[32]⟩:ByteArray)).map Value.string)∧Below w.heap.size w wr) (fun _ i _=>n-(intOf i).toNat)
 case atStart=>exact ⟨0,rfl,xZ _,World.ownsRow_nil _ _ _ _,xC _ _⟩
 case round =>
  obtain ⟨j,rfl,hj,hown,hb⟩:=hrel;have HO:=hQ hown;have HB:=hQ hb;clear hown hb
  by_cases hlt:j<n
  ·have HL1:=hQ (show j+1≤maxLen from by have:=HN.out;unfold maxLen;omega);have HL2:=hQ (show (j+1)*16≤140737488355328 from by have:=HN.out;omega);have HW:=hQ ((xC wr.heap.size wr).alloc (xA _) (.cells #[.string ⟨#[32]⟩] 9));have HJ:=hQ hj;clear hj;have HNW:=hQ (xM (w:=wr.alloc (.cells #[.string ⟨#[32]⟩] 9)) (cs:=#[.string ⟨#[32]⟩]) (t:=9) (fr:=(0,0)) (xH wr _));have HON:=hQ (Qmu [⟨#[32]⟩]);have HSZ:=hQ (show w.heap.size≤(wr.alloc (.cells #[.string ⟨#[32]⟩] 9)).heap.size from by rw [xI];have:=HB.out.size;omega);have HOA:=hQ (HO.out.alloc (.cells #[.string ⟨#[32]⟩] 9));go_wp2_with (at_builtin;refine wpList_append_lies _ rfl _ _ 27 rfl w.heap.size 9 is _ 1 16 Tryz.underlying27 his s0 s1 s2 rfl (by decide) _ j ((List.replicate j (⟨#[32]⟩:ByteArray)).map Value.string) rfl HOA.out ⟨wr.heap.size,0,none⟩ 1 1 [.string ⟨#[32]⟩] rfl rfl HNW.out HON.out (by decide) HL1.out HL2.out HSZ.out _ rfl ?_;intro g c w3 hown hgr _ hlt3;have HO3:=hQ hown;have HB3:=hQ ((HB.out.trans (HW.out.mono HB.out.size)).grown hgr HSZ.out (fun k hk=>(HO.out.lt k hk).1));clear hown hgr hlt3)
   go_roundw
   case rel =>
    refine ⟨j+1,by go_num,by omega,?_,HB3.out⟩;rw [List.replicate_succ',List.map_append];exact HO3.out
   case measure=>simp [intOf];omega
  ·obtain rfl:j=n:=by omega
   go_wp2
   go_ret
   exact ⟨_,rfl,HO.out,HB.out⟩
def BefP (w:World) (e:Ending) (w':World):Prop:=∃ s:ByteArray,e = .returned (.string s)∧s.size≤5∧Below w.heap.size w w'
theorem Qwy (v:TV) (i:Nat) (s:ByteArray) (w:World) (hs:s.size≤5):Calls Tryz.prog 212 #[.agg #[.int .i64 v.kind,.string v.text,.slice v.la v.ll v.lc,.slice v.ka v.kl v.kc],.int .i64 i,.string s] w (BefP w):=by
 obtain ⟨vk,vx,vla,vll,vlc,vka,vkl,vkc⟩:=v;have HB0:=hQ ((xC w.heap.size w).alloc (xA _) (trO ⟨vk,vx,vla,vll,vlc,vka,vkl,vkc⟩));have HS:=hQ hs;clear hs
 by_cases h1:vk=1
 ·subst h1
  go_enter Tryz.func212,Tryz.ntmps212
  go_wp2
  go_ret
  exact ⟨_,rfl,by decide,HB0.out⟩
 have d1:decide (vk=1)=false:=xR h1;have e1:=Qcn h1
 by_cases hi:0<i
 ·go_enter Tryz.func212,Tryz.ntmps212
  go_wp2
  go_ret
  exact ⟨_,rfl,by decide,HB0.out⟩
 obtain rfl:i=0:=by omega
 by_cases h2:vk=8∨vk=22∨vk=16∨vk=18
 ·rcases h2 with rfl | rfl | rfl | rfl
  all_goals
   go_enter Tryz.func212,Tryz.ntmps212
   go_wp2
   go_ret
   exact ⟨_,rfl,by decide,HB0.out⟩
 by_cases h3:vk=2
 ·subst h3
  by_cases hl:2<vkl
  ·go_enter Tryz.func212,Tryz.ntmps212
   go_wp2
   go_ret
   exact ⟨_,rfl,by decide,HB0.out⟩
  ·have dl:decide (2<vkl)=false:=xR hl
   go_enter Tryz.func212,Tryz.ntmps212
   go_wp2
   go_ret
   exact ⟨_,rfl,by decide,HB0.out⟩
 by_cases h4:vk=17∨vk=21
 ·rcases h4 with rfl | rfl
  all_goals
   go_enter Tryz.func212,Tryz.ntmps212
   go_wp2
   go_ret
   exact ⟨_,rfl,HS.out,HB0.out⟩
 have n8:vk≠8:=fun h=>h2 (.inl h)
 have n22:vk≠22:=fun h=>h2 (.inr (.inl h))
 have n16:vk≠16:=fun h=>h2 (.inr (.inr (.inl h)))
 have n18:vk≠18:=fun h=>h2 (.inr (.inr (.inr h)))
 have n17:vk≠17:=fun h=>h4 (.inl h)
 have n21:vk≠21:=fun h=>h4 (.inr h)
 have q8:=Qcn n8;have q22:=Qcn n22;have q16:=Qcn n16;have q18:=Qcn n18;have q17:=Qcn n17;have q21:=Qcn n21;have q2:=Qcn h3;clear h2 h4
 go_enter Tryz.func212,Tryz.ntmps212
 go_wp2
 go_ret
 exact ⟨_,rfl,by decide,HB0.out⟩
structure LdU (R U:Nat) (k:Int) (x:ByteArray) (la:Option Addr) (q lc:Nat) (wr:World):Prop where
 blk:wr.heap[U]? = some (trO ⟨k,x,la,q,lc,none,0,0⟩)
 ru:R<U
 cap:q≤lc
 ld:∃ ls:List ByteArray,ls.length=q∧(∀ y∈ls,y.size≤5)∧(0<q→∃ g cs,la=some ⟨g,0,none⟩∧wr.heap[g]? = some (.cells cs 9 (0,0))∧R<g∧g≠U∧∀ (i:Nat) (s:ByteArray),ls[i]? = some s→cs[i]? = some (.string s))
theorem LdU.keep {R U:Nat} {k:Int} {x:ByteArray} {la:Option Addr} {q lc:Nat} {wr w':World} (h:LdU R U k x la q lc wr) (hb:Below wr.heap.size wr w'):LdU R U k x la q lc w':=by
 obtain ⟨h1,h2,h3,ls,h4,h5,h6⟩:=h;refine ⟨(hb.block U (Qaa h1)).trans h1,h2,h3,ls,h4,h5,fun hq=>?_⟩;obtain ⟨g,cs,q1,q2,q3⟩:=h6 hq;exact ⟨g,cs,q1,(hb.block g (Qaa q2)).trans q2,q3⟩
theorem LdU.put {R U g i:Nat} {k:Int} {x s:ByteArray} {q lc:Nat} {wr:World} (h:LdU R U k x (some ⟨g,0,none⟩) q lc wr) (hi:i<q) (hs:s.size≤5):LdU R U k x (some ⟨g,0,none⟩) q lc (wr.setCell ⟨g,i,none⟩ (.string s)):=by
 obtain ⟨h1,h2,h3,ls,h4,h5,h6⟩:=h;obtain ⟨g',cs,q1,q2,q3,q4,q5⟩:=h6 (by omega);injection q1 with q1;injection q1 with q1 _ _;subst q1
 refine ⟨(Qav (fun e=>q4 e.symm)).trans h1,h2,h3,ls.set i s,by rw [List.length_set,h4],fun y hy=>?_,fun _=>⟨g,_,rfl,Qa2 q2 rfl,q3,q4,fun j z hz=>?_⟩⟩
 ·rcases List.mem_or_eq_of_mem_set hy with h | h
  ·exact h5 y h
  ·rw [h];exact hs
 ·have hcs:i<cs.size:=by
   obtain ⟨z',hz'⟩:∃ z,ls[i]? = some z:=⟨_,xF (by omega)⟩;exact (Array.getElem?_eq_some_iff.1 (q5 i z' hz')).1
  by_cases hj:j=i
  ·subst hj;rw [List.getElem?_set_self (by omega)] at hz;injection hz with hz;subst hz;rw [Array.getElem?_setIfInBounds_self_of_lt hcs]
  ·rw [List.getElem?_set_ne (fun e=>hj e.symm)] at hz;rw [xY (fun e=>hj e.symm)];exact q5 j z hz
theorem LdU.at {R U i:Nat} {k:Int} {x:ByteArray} {la:Option Addr} {q lc:Nat} {wr:World} (h:LdU R U k x la q lc wr) (hi:i<q):∃ g,la=some ⟨g,0,none⟩∧R<g∧g≠U∧g<wr.heap.size∧(∀ o,wr.frozen? ⟨g,o,none⟩=false)∧∀ j,j<q→∃ s,wr.cell? ⟨g,j,none⟩=some (.string s):=by
 obtain ⟨h1,h2,h3,ls,h4,h5,h6⟩:=h;obtain ⟨g,cs,q1,q2,q3,q4,q5⟩:=h6 (by omega);refine ⟨g,q1,q3,q4,Qaa q2,fun o=>xL q2 _,fun j hj=>?_⟩;obtain ⟨s,hs⟩:∃ s,ls[j]? = some s:=⟨_,xF (by omega)⟩;exact ⟨s,Qab q2 j _ (q5 j s hs)⟩
structure RowK (G:Nat) (wr:World) (ks:List Tr) (vs:List TV):Prop where
 len:vs.length=ks.length
 row:∃ cs,wr.heap[G]? = some (.cells cs 29 (0,0))∧RowIs cs vs
 kid:∀ (i:Nat) (k:Tr) (u:TV),ks[i]? = some k→vs[i]? = some u→TrAt (fun b=>G<b∧b<wr.heap.size) wr k u
theorem RowK.other {G:Nat} {wr w':World} {ks:List Tr} {vs:List TV} (h:RowK G wr ks vs) (hs:wr.heap.size≤w'.heap.size) (hb:∀ b,G≤b→b<wr.heap.size→w'.heap[b]? = wr.heap[b]?):RowK G w' ks vs:=by
 obtain ⟨h1,⟨cs,h2,h3⟩,h4⟩:=h;exact ⟨h1,⟨cs,(hb G (xA _) (Qaa h2)).trans h2,h3⟩,fun i k u hk hu=>TrAt.move (fun b hb'=>⟨hb'.1,by omega⟩) (fun b hb' hl=>hb b (by omega) hl) _ _ (h4 i k u hk hu)⟩
theorem Qwz {cs:Array Value} {vs:List TV} (h:RowIs cs vs) (y:TV) (j:Nat) (hj:j=vs.length) (hs:j*4+4≤cs.size):RowIs (Zd8 cs (j*4) y) (vs ++ [y]):=by
 subst hj;intro i v hv
 by_cases hi:i<vs.length
 ·rw [yB hi] at hv;obtain ⟨q0,q1,q2,q3⟩:=h i v hv;exact ⟨(Qiw cs _ y _ (by omega)).trans q0,(Qiw cs _ y _ (by omega)).trans q1,(Qiw cs _ y _ (by omega)).trans q2,(Qiw cs _ y _ (by omega)).trans q3⟩
 ·have hl:=(xP.1 hv).1;rw [xB,List.length_singleton] at hl;obtain rfl:i=vs.length:=by omega
  rw [xX (xA _),Nat.sub_self] at hv;injection hv with hv;subst hv;unfold Zd8
  refine ⟨?_,?_,?_,?_⟩
  ·rw [xY (by omega),xY (by omega),xY (by omega),Array.getElem?_setIfInBounds_self_of_lt (by omega)]
  ·rw [xY (by omega),xY (by omega),Array.getElem?_setIfInBounds_self_of_lt (by simp;omega)]
  ·rw [xY (by omega),Array.getElem?_setIfInBounds_self_of_lt (by simp;omega)]
  ·rw [Array.getElem?_setIfInBounds_self_of_lt (by simp;omega)]
theorem RowK.snoc {G j:Nat} {w5:World} {ks:List Tr} {vs:List TV} {t:Tr} {y:TV} (h:RowK G w5 ks vs) (hj:j=ks.length) (hc:∀ cs,w5.heap[G]? = some (.cells cs 29 (0,0))→j*4+4≤cs.size) (ht:TrAt (fun b=>G<b∧b<w5.heap.size) w5 t y):RowK G (Zbl w5 G (j*4) y) (ks ++ [t]) (vs ++ [y]):=by
 obtain ⟨h1,⟨cs,h2,h3⟩,h4⟩:=h;have hz:=Qnf w5 G (j*4) y;refine ⟨by rw [xB,xB,h1];rfl,⟨_,Qne (j*4) y h2,Qwz h3 y j (by rw [h1];exact hj) (hc cs h2)⟩,fun i k u hk hu=>?_⟩;have hmv:∀ (k:Tr) (u:TV),TrAt (fun b=>G<b∧b<w5.heap.size) w5 k u→TrAt (fun b=>G<b∧b<(Zbl w5 G (j*4) y).heap.size) (Zbl w5 G (j*4) y) k u:=fun k u h=>TrAt.move (fun b hb=>⟨hb.1,by rw [hz];exact hb.2⟩) (fun b hb _=>Qen (j*4) y (by omega)) _ _ h
 by_cases hi:i<ks.length
 ·rw [yB hi] at hk;rw [yB (by rw [h1];exact hi)] at hu;exact hmv _ _ (h4 i k u hk hu)
 ·have hl:=(xP.1 hk).1;rw [xB,List.length_singleton] at hl;obtain rfl:i=ks.length:=by omega
  rw [xX (xA _),Nat.sub_self] at hk;rw [←h1,xX (xA _),Nat.sub_self] at hu;injection hk with hk;injection hu with hu;subst hk hu;exact hmv _ _ ht
def ArrP (t:Tr) (w:World) (e:Ending) (w':World):Prop:=∃ (t':Tr) (u:TV),e = .returned (.agg #[.int .i64 u.kind,.string u.text,.slice u.la u.ll u.lc,.slice u.ka u.kl u.kc])∧TrAt (fun b=>w.heap.size≤b∧b<w'.heap.size) w' t' u∧Qal t'=Qal t∧Qf0 t'=true∧Below w.heap.size w w'∧t'.kind=t.kind
structure ArE (kd:Int) (U G:Nat) (la:Option Addr) (q lc:Nat) (t:Tr) (v:TV) (ks:List Tr) (vs:List TV) (w wr:World):Prop where
 ld:LdU (w.heap.size+1) U kd t.text la q lc wr
 res:wr.heap[w.heap.size+1]? = some (.cells #[.int .i64 0,.string ⟨#[]⟩,.slice none 0 0,.slice none 0 0] 29 (0,0))
 box:wr.heap[w.heap.size]? = some (trO v)
 row:RowK G wr ks vs
 ug:U<G
 lg:0<q→∀ g,la=some ⟨g,0,none⟩→g<G
 below:Below w.heap.size w wr
theorem ArE.put {kd:Int} {U G g i:Nat} {q lc:Nat} {t:Tr} {v:TV} {ks:List Tr} {vs:List TV} {w wr:World} {s:ByteArray} (h:ArE kd U G (some ⟨g,0,none⟩) q lc t v ks vs w wr) (hi:i<q) (hs:s.size≤5):ArE kd U G (some ⟨g,0,none⟩) q lc t v ks vs w (wr.setCell ⟨g,i,none⟩ (.string s)):=by
 obtain ⟨g',e,h1,h2,h3,_⟩:=h.ld.at hi;injection e with e;injection e with e _ _;subst e;have hg:=h.lg (by omega) g rfl;have hz:(wr.setCell ⟨g,i,none⟩ (.string s)).heap.size=wr.heap.size:=by simp [World.setCell]
 exact ⟨h.ld.put hi hs,(Qav (by omega)).trans h.res,(Qav (by omega)).trans h.box,h.row.other (by rw [hz];exact xA _) (fun b hb _=>Qav (by omega)),h.ug,h.lg,h.below.setCell (p:=⟨g,i,none⟩) (by show w.heap.size≤g;omega) _⟩
theorem ArE.drew {kd:Int} {U G:Nat} {la:Option Addr} {q lc:Nat} {t:Tr} {v:TV} {ks:List Tr} {vs:List TV} {w wr:World} (h:ArE kd U G la q lc t v ks vs w wr):ArE kd U G la q lc t v ks vs w wr.drew :=
 ⟨h.ld.keep ((xC _ _).drew),h.res,h.box,h.row.other (xA _) (fun _ _ _=>rfl),h.ug,h.lg,h.below.drew⟩
theorem ArE.made {kd:Int} {U G:Nat} {la:Option Addr} {q lc n:Nat} {t:Tr} {v:TV} {ks:List Tr} {vs:List TV} {w wr:World} (h:ArE kd U G la q lc t v ks vs w wr) (hx:t.text.size≤7) (hq:q≤n+6) (hn:n=ks.length) (hs:Qao ks=Qao t.kids) (ht:Qbj ks=true) (hk':kd=t.kind) :
  ArrP t w (.returned (.agg #[.int .i64 kd,.string t.text,.slice la q lc,.slice (some ⟨G,0,none⟩) n n])) (Qf7 (wr.setCell ⟨U,3,none⟩ (.slice (some ⟨G,0,none⟩) n n)) (w.heap.size+1) ⟨kd,t.text,la,q,lc,some ⟨G,0,none⟩,n,n⟩):=by
 subst hn;obtain ⟨ls,l1,l2,l3⟩:=h.ld.ld;have hU:=h.ld.ru;have hUG:=h.ug;obtain ⟨cs,r1,r2⟩:=h.row.row;have hG:=Qaa r1;have hz:(Qf7 (wr.setCell ⟨U,3,none⟩ (.slice (some ⟨G,0,none⟩) ks.length ks.length)) (w.heap.size+1) ⟨kd,t.text,la,q,lc,some ⟨G,0,none⟩,ks.length,ks.length⟩).heap.size=wr.heap.size:=by rw [Qdn];simp [World.setCell]
 have hk:∀ b,b≠U→b≠w.heap.size+1→(Qf7 (wr.setCell ⟨U,3,none⟩ (.slice (some ⟨G,0,none⟩) ks.length ks.length)) (w.heap.size+1) ⟨kd,t.text,la,q,lc,some ⟨G,0,none⟩,ks.length,ks.length⟩).heap[b]? = wr.heap[b]?:=fun b h1 h2=>(Qbw _ h2).trans (Qav h1)
 refine ⟨.mk kd t.text ls ks,⟨kd,t.text,la,q,lc,some ⟨G,0,none⟩,ks.length,ks.length⟩,rfl,?_,by rw [Qal,Qa0,hs],Qcc.2 ⟨hx,by omega,l2,ht⟩,(h.below.setCell (p:=⟨U,3,none⟩) (by show w.heap.size≤U;omega) _).trans ((Qck _ (w.heap.size+1) _).mono (by omega)),hk'⟩;unfold TrAt
 refine ⟨rfl,rfl,l1.symm,rfl,fun hne=>?_,fun hne=>?_,h.ld.cap,xA _⟩
 ·obtain ⟨g,cg,q1,q2,q3,q4,q5⟩:=l3 (by rw [←l1];exact List.length_pos_iff.2 hne);refine ⟨g,0,q1,⟨by omega,by rw [hz];exact Qaa q2⟩,fun i y hy=>?_⟩;rw [Nat.zero_add];exact (xJ (w:=wr) (a:=⟨g,i,none⟩) (hk g q4 (by omega))).trans (Qab q2 i _ (q5 i y hy))
 ·refine ⟨G,0,rfl,⟨by omega,by rw [hz];exact hG⟩,TrsAt.of ks 0 fun i k hki=>?_⟩;have hi:=(xP.1 hki).1;obtain ⟨u,hu⟩:∃ u,vs[i]? = some u:=⟨_,xF (by rw [h.row.len];exact hi)⟩;obtain ⟨q0,q1,q2,q3⟩:=r2 i u hu;have hc:∀ (o:Nat) (z:Value),cs[o]? = some z→(Qf7 (wr.setCell ⟨U,3,none⟩ (.slice (some ⟨G,0,none⟩) ks.length ks.length)) (w.heap.size+1) ⟨kd,t.text,la,q,lc,some ⟨G,0,none⟩,ks.length,ks.length⟩).cell? ⟨G,o,none⟩=some z:=fun o z hz=>(xJ (w:=wr) (a:=⟨G,o,none⟩) (hk G (by omega) (by omega))).trans (Qab r1 o _ hz)
  rw [Nat.zero_add];exact ⟨u,hc _ _ q0,hc _ _ q1,hc _ _ q2,hc _ _ q3,TrAt.move (fun b hb=>⟨by omega,by rw [hz];exact hb.2⟩) (fun b hb _=>hk b (by omega) (by omega)) _ _ (h.row.kid i k u hki hu)⟩
end Go.Proofs.YtjidpkcjpgdafaaGreat
