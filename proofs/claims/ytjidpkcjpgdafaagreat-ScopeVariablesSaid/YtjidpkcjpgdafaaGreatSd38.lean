/- Part 38 -/
import Derived.Test.YtjidpkcjpgdafaaGreatSd37
import Derived.Test.YtjidpkcjpgdafaaGreatSd29
import Derived.Lib.AppendZerosOnto
import Derived.Lib.Walk
import Derived.Lib.SliceRun
set_option maxRecDepth 100000
set_option maxHeartbeats 4000000
namespace Go.Proofs.YtjidpkcjpgdafaaGreat
open Go.RowKit Go.Shelf
theorem Qt2:(Tryz.prog.info? 3).map (fun i=>(i.zero,i.size,i.bytes))=some (some (.int .i64 0),1,8):=by kernel_rfl
section
variable {P:Program} {w:World} {ops:Array Oper} {rest:List Oper} {o:Oper} {a:Act} {Q:Exit→Act→World→Prop}
theorem Qfa (hgd:o.guard=none) (s x:Operand) (t:TypeId)
  (ho:o.op = .call { callee:=.builtin .append,args:=#[s,x],argTypes:=#[t,t] }) (e:TypeId) (i:TypeInfo) (ht:P.underlying t=some (.slice e)) (hi:P.info? e=some i)
  {ad:Addr} {n cap:Nat} (hs:a.eval s = .slice (some ad) n cap) (hn:n≤cap) {A:Option Addr} {m c:Nat} (hm:m=0) (hx:a.eval x = .slice A m c) (h:wpList P ops Q rest (a.put o.dst (.slice (some ad) n cap)) w):wpList P ops Q (o :: rest) a w:=by
 subst hm
 refine wpList_plain hgd fun K hK=>?_
 have hr:(Builtin.append_ #[t,t] o.type #[.slice (some ad) n cap,.slice A 0 c]).run P w = .ok (.slice (some ad) n cap) w:=by
  cases A <;> simp [Builtin.append_,run_underlying ht,sizeOf,typeInfo,hi,Builtin.lenOf,Builtin.firstCells,loadCells,loadCellsFrom,hn,storeCells]
 unfold Oper.wp execOp
 simp only [ho,resolve,invoke,builtin,Sem.run_bind,Sem.run_pure,Result.andThen_ok,List.map_toArray,List.map_cons,List.map_nil,hs,hx,hr]
 exact hK _ _ h
end
def IntRow (w:World) (B:Nat) (v:Value) (p:List Int):Prop:=w.ownsRow B 3 1 v p.length (p.map (Value.int .i64))
theorem IntRow.cells {w:World} {B n c:Nat} {A:Option Addr} {p:List Int} (h:IntRow w B (.slice A n c) p) (hp:0<p.length):∃ g,A=some ⟨g,0,none⟩∧∀ (j:Nat) (u:Value),(p.map (Value.int .i64))[j]? = some u→w.cell? ⟨g,0+j,none⟩=some u:=by
 rcases h.2 with ⟨_,h0⟩|⟨g,cap,cur,hv,hb,hh,hnc,hm,hsz,htk⟩
 ·omega
 ·injection hv with e1 e2 e3
  refine ⟨g,e1,fun j u hu=>?_⟩
  rw [Nat.zero_add,Lib.cell_of_heap hh]
  have hj:=(xP.1 hu).1
  rw [List.length_map] at hj
  rw [←htk,List.getElem?_take_of_lt (by omega)] at hu
  rw [←Array.getElem?_toList]
  exact hu
theorem Qgz {w:World} {B n size:Nat} {T:TypeId} {v:Value} {xs:List Value} (h:w.ownsRow B T size v n xs):∀ k,v.ownBlock=some k→B≤k:=fun k hk=>by
 rcases h.2 with ⟨hv,_⟩|⟨g,_,_,hv,hb,_⟩
 ·subst hv
  cases hk
 ·subst hv
  injection hk with hk
  subst hk
  exact hb
theorem Qga (p:List Int):∀ u∈p.map (Value.int .i64),u.oneCell'=true:=by
 intro u hu
 obtain ⟨x,_,rfl⟩:=List.mem_map.1 hu
 rfl
end Go.Proofs.YtjidpkcjpgdafaaGreat
namespace Go.Proofs.YtjidpkcjpgdafaaGreat
open Go.RowKit
theorem RowIs.at {w:World} {g:Nat} {cs:Array Value} {us:List TV} (hc:w.heap[g]? = some (.cells cs 29 (0,0))) (h:RowIs cs us) {i:Nat} {u:TV} (hu:us[i]? = some u):Ze6 w g (i*4) u:=by
 obtain ⟨q0,q1,q2,q3⟩:=h i u hu
 exact ⟨Qab hc _ _ q0,Qab hc _ _ q1,Qab hc _ _ q2,Qab hc _ _ q3⟩
def Zbh (w:World) (b o:Nat) (y:TV):World:=(((w.setCell ⟨b,o,none⟩ (.int .i64 y.kind)).setCell ⟨b,o+1,none⟩ (.string y.text)).setCell ⟨b,o+2,none⟩ (.slice y.la y.ll y.lc)).setCell ⟨b,o+3,none⟩ (.slice y.ka y.kl y.kc)
def Zd2 (cs:Array Value) (o:Nat) (y:TV):Array Value:=(((cs.setIfInBounds o (.int .i64 y.kind)).setIfInBounds (o+1) (.string y.text)).setIfInBounds (o+2) (.slice y.la y.ll y.lc)).setIfInBounds (o+3) (.slice y.ka y.kl y.kc)
theorem Qm1 {w:World} {b:Nat} {cs:Array Value} {T:TypeId} (o:Nat) (y:TV) (h:w.heap[b]? = some (.cells cs T (0,0))):(Zbh w b o y).heap[b]? = some (.cells (Zd2 cs o y) T (0,0)):=Qa2 (Qa2 (Qa2 (Qa2 h rfl) rfl) rfl) rfl
theorem Qem {w:World} {b k:Nat} (o:Nat) (y:TV) (h:k≠b):(Zbh w b o y).heap[k]? = w.heap[k]?:=(((Qav h).trans (Qav h)).trans (Qav h)).trans (Qav h)
theorem Qm2 (w:World) (b o:Nat) (y:TV):(Zbh w b o y).heap.size=w.heap.size:=by simp [Zbh,World.setCell]
theorem Qwg (w:World) {B b:Nat} (o:Nat) (y:TV) (h:B≤b):Below B w (Zbh w b o y):=((((xC B w).setCell (p:=⟨b,o,none⟩) h _).setCell (p:=⟨b,o+1,none⟩) h _).setCell (p:=⟨b,o+2,none⟩) h _).setCell (p:=⟨b,o+3,none⟩) h _
theorem Zac (cs:Array Value) (o:Nat) (y:TV):(Zd2 cs o y).size=cs.size:=by simp [Zd2]
theorem Qis (cs:Array Value) (o:Nat) (y:TV) (q:Nat) (h:q<o∨o+4≤q):(Zd2 cs o y)[q]? = cs[q]?:=by
 unfold Zd2
 rw [xY (by omega),xY (by omega),xY (by omega),xY (by omega)]
end Go.Proofs.YtjidpkcjpgdafaaGreat
namespace Go.Proofs.YtjidpkcjpgdafaaGreat
open Go.RowKit Go.Shelf
mutual
def Qf5:Tr→List Int→List (List Int)
 | .mk _ _ _ ks,p=>p :: Qdq ks 0 p
def Qdq:List Tr→Nat→List Int→List (List Int)
 | [],_,_=>[]
 | t :: r,i,p=>Qf5 t (p ++ [(i:Int)]) ++ Qdq r (i+1) p
end
theorem Zad (t:Tr) (p:List Int):Qf5 t p=p :: Qdq t.kids 0 p:=by cases t;rw [Qf5];rfl
theorem Qm3 (t:Tr) (p:List Int):(l:List Tr)→(i:Nat)→Qdq (l ++ [t]) i p=Qdq l i p ++ Qf5 t (p ++ [((i+l.length:Nat):Int)])
 | [],i=>by rw [xU,Qdq,Qdq,Qdq,List.append_nil,xU];rfl
 | a :: r,i=>by
  rw [xV,Qdq,Qdq,Qm3 t p r (i+1),xT,xD,show i+1+r.length=i+(r.length+1) from by omega]
mutual
theorem Qkw:(t:Tr)→(p:List Int)→(Qf5 t p).length=Qak t
 | .mk _ _ _ ks,p=>by rw [Qf5,Qak,xD,Qkx ks 0 p];omega
theorem Qkx:(l:List Tr)→(i:Nat)→(p:List Int)→(Qdq l i p).length=Qap l
 | [],_,_=>by rw [Qdq,Qap];rfl
 | t :: r,i,p=>by rw [Qdq,Qap,xB,Qkw t,Qkx r]
end
structure PStep (B lb:Nat) (w w':World):Prop where
 os:w'.os=w.os
 tape:w'.tape=w.tape
 output:w'.output=w.output
 size:w.heap.size≤w'.heap.size
 block:∀ k,k<w.heap.size→k≠lb→(k<B∨∀ cs,w.heap[k]?≠some (.cells cs 23 (0,0)))→w'.heap[k]? = w.heap[k]?
theorem PStep.trans {B lb:Nat} {u v w:World} (h:PStep B lb u v) (k:PStep B lb v w):PStep B lb u w :=
 ⟨k.os.trans h.os,k.tape.trans h.tape,k.output.trans h.output,xQ h.size k.size,fun i hi hl hc=>by
  have h1:=h.block i hi hl hc
  exact (k.block i (xE hi h.size) hl (hc.imp id fun hn cs=>by rw [h1];exact hn cs)).trans h1⟩
theorem PStep.below {B lb:Nat} {w w':World} (h:Below w.heap.size w w'):PStep B lb w w':=⟨h.os,h.tape,h.output,h.size,fun k hk _ _=>h.block k hk⟩
theorem PStep.grown {B lb n:Nat} {w w':World} {L:Value} {vs:List Value} (h:w.ownsRow B 23 1 L n vs) (hg:w.grownBy w' L.ownBlock):PStep B lb w w' :=
 ⟨hg.os,hg.tape,hg.output,hg.size,fun k hk _ hc=>hg.block k hk fun e=>by
  rcases h.2 with ⟨hv,_⟩|⟨g,cap,cur,hv,hb,hh,_⟩
  ·rw [hv] at e
   cases e
  ·rw [hv] at e
   injection e with e
   subst e
   rcases hc with hc | hc
   ·exact absurd hb (Nat.not_le_of_lt hc)
   ·exact hc cur hh⟩
theorem PStep.down {B lb:Nat} {w w':World} (h:PStep B lb w w') (hl:B≤lb) (hB:B≤w.heap.size):Below B w w':=⟨h.os,h.tape,h.output,h.size,fun k hk=>h.block k (xE hk hB) (by omega) (.inl hk)⟩
theorem PStep.other {B lb k:Nat} {w w':World} {cs:Array Value} {T:TypeId} (h:PStep B lb w w') (hk:w.heap[k]? = some (.cells cs T (0,0))) (hl:k≠lb) (hT:T≠23):w'.heap[k]? = some (.cells cs T (0,0)) :=
 (h.block k (Qaa hk) hl (.inr fun cs' e=>by rw [hk] at e;injection e with e;injection e with _ e;exact hT e)).trans hk
theorem Qhx {B size n:Nat} {w w':World} {T:TypeId} {v:Value} {xs:List Value} (h:w.ownsRow B T size v n xs) (hb:Below w.heap.size w w'):w'.ownsRow B T size v n xs:=by
 refine ⟨h.1,?_⟩
 rcases h.2 with h0|⟨g,cap,cur,hv,hb',hh,hr⟩
 ·exact .inl h0
 ·exact .inr ⟨g,cap,cur,hv,hb',(hb.block g (Qaa hh)).trans hh,hr⟩
theorem Qfq {B B' size n:Nat} {w:World} {T:TypeId} {v:Value} {xs:List Value} (h:w.ownsRow B T size v n xs) (hB:B'≤B):w.ownsRow B' T size v n xs:=by
 refine ⟨h.1,?_⟩
 rcases h.2 with h0|⟨g,cap,cur,hv,hb',hr⟩
 ·exact .inl h0
 ·exact .inr ⟨g,cap,cur,hv,xQ hB hb',hr⟩
theorem Qky (w:World) (a b:Obj):((w.alloc a).alloc b).heap[w.heap.size]? = some a∧((w.alloc a).alloc b).heap[w.heap.size+1]? = some b :=
 ⟨(Below.heap_alloc _ _ _ (by rw [xI];omega)).trans (xH w a),by rw [←xI w a];exact xH _ _⟩
theorem Qwh:(Tryz.prog.info? 23).map (fun i=>(i.zero,i.size,i.bytes))=some (some (.slice none 0 0),1,24):=by kernel_rfl
theorem Qsx {B n k:Nat} {w w':World} {L:Value} {vs:List Value} {cs:Array Value} {T:TypeId} (h:w.ownsRow B 23 1 L n vs) (hg:w.grownBy w' L.ownBlock) (hk:w.heap[k]? = some (.cells cs T (0,0))) (hT:T≠23):w'.heap[k]? = some (.cells cs T (0,0)) :=
 (hg.block k (Qaa hk) (fun e=>by
  rcases h.2 with ⟨hv,_⟩|⟨g,cap,cur,hv,hb,hh,_⟩
  ·rw [hv] at e
   cases e
  ·rw [hv] at e
   injection e with e
   subst e
   rw [hk] at hh
   injection hh with hh
   injection hh with _ hh
   exact hT hh)).trans hk
theorem Qq1:(l:List Tr)→(j:Nat)→(k:Tr)→l[j]? = some k→Qap (l.take j)+Qak k≤Qap l
 | [],_,_,h=>by simp at h
 | a :: r,0,k,h=>by
  simp at h
  subst h
  rw [List.take_zero,Qap,Qap]
  omega
 | a :: r,j+1,k,h=>by
  have:=Qq1 r j k (by simpa using h)
  rw [List.take_succ_cons,Qap,Qap]
  omega
theorem Qt3 {t k:Tr} {j:Nat} (h:t.kids[j]? = some k):Qap (t.kids.take j)+Qak k≤Qap t.kids:=Qq1 _ _ _ h
theorem Qm4 {t k:Tr} {j:Nat} (h:t.kids[j]? = some k):1+Qak k≤Qak t:=by
 have h1:=Qt3 h
 rw [Qa0 t]
 omega
def PsAt (w:World) (B:Nat) (L:Value) (ps:List (List Int)):Prop :=
 ∃ vs:List Value,w.ownsRow B 23 1 L ps.length vs∧∀ (i:Nat) (v:Value) (p:List Int),vs[i]? = some v→ps[i]? = some p→IntRow w B v p
theorem PsAt.keep {w w':World} {B:Nat} {L:Value} {ps:List (List Int)} (h:PsAt w B L ps) (hb:Below w.heap.size w w'):PsAt w' B L ps:=by
 obtain ⟨vs,h1,h2⟩:=h
 exact ⟨vs,Qhx h1 hb,fun i v p hv hp=>Qhx (h2 i v p hv hp) hb⟩
mutual
def Zag:Tr→List (List Int)
 | .mk _ _ _ ks=>[] :: Zdh ks 0
def Zdh:List Tr→Nat→List (List Int)
 | [],_=>[]
 | t :: r,i=>(Zag t).map ((i:Int) :: ·) ++ Zdh r (i+1)
end
theorem Zah (t:Tr):Zag t = [] :: Zdh t.kids 0:=by cases t;rw [Zag];rfl
mutual
theorem Qq3:(t:Tr)→(p:List Int)→Qf5 t p=(Zag t).map (p ++ ·)
 | .mk _ _ _ ks,p=>by rw [Qf5,Zag,List.map_cons,Qoc ks 0 p,List.append_nil]
theorem Qoc:(l:List Tr)→(i:Nat)→(p:List Int)→Qdq l i p=(Zdh l i).map (p ++ ·)
 | [],_,_=>by rw [Qdq,Zdh];rfl
 | t :: r,i,p=>by
  rw [Qdq,Zdh,List.map_append,Qoc r,Qq3 t,List.map_map]
  congr 1
  apply List.map_congr_left
  intro q _
  simp
end
theorem Qm6 (t:Tr):Qf5 t [] = Zag t:=by
 rw [Qq3]
 simp
theorem Qpl (t:Tr):(Zag t).length=Qak t:=by rw [←Qm6,Qkw]
theorem Qpm:(l:List Tr)→(i x:Nat)→(q:List Int)→(Zdh l i)[x]? = some q →
  ∃ (j:Nat) (k:Tr) (r:List Int),l[j]? = some k∧q=((i+j:Nat):Int) :: r∧Qap (l.take j)≤x∧(Zag k)[x-Qap (l.take j)]? = some r
 | [],i,x,q,h=>by rw [Zdh] at h;simp at h
 | t :: l,i,x,q,h=>by
  rw [Zdh] at h
  by_cases hx:x<Qak t
  ·rw [yB (by rw [List.length_map,Qpl];exact hx),List.getElem?_map] at h
   cases hr:(Zag t)[x]? with
   | none=>rw [hr] at h;cases h
   | some r =>
    rw [hr] at h
    injection h with h
    exact ⟨0,t,r,rfl,h.symm,by rw [List.take_zero,Qap];omega,by rw [List.take_zero,Qap,Nat.sub_zero];exact hr⟩
  ·rw [xX (by rw [List.length_map,Qpl];omega),List.length_map,Qpl] at h
   obtain ⟨j,k,r,h1,h2,h3,h4⟩:=Qpm l (i+1) (x-Qak t) q h
   refine ⟨j+1,k,r,by simpa using h1,by rw [h2,show i+1+j=i+(j+1) from by omega],?_,?_⟩
   ·rw [List.take_succ_cons,Qap]
    omega
   ·rw [List.take_succ_cons,Qap,Nat.sub_add_eq]
    exact h4
theorem Zfz (N:Nat):∀ (t:Tr) (n x:Nat) (q:List Int),SizeOf.sizeOf t≤N→(Zag t)[x]? = some q→Qlq n t q=((n+x:Nat):Int):=by
 induction N with
 | zero=>intro t n x q h;have:=Qgu t;omega
 | succ N ih =>
  intro t n x q hN h
  rw [Zah] at h
  cases x with
  | zero =>
   simp at h
   subst h
   rw [Qlq]
   rfl
  | succ x =>
   rw [List.getElem?_cons_succ] at h
   obtain ⟨j,k,r,h1,h2,h3,h4⟩:=Qpm t.kids 0 x q h
   rw [Nat.zero_add] at h2
   subst h2
   have hj:=(xP.1 h1).1
   have hkb:Qlp t (j:Int)=true:=by
    unfold Qlp
    rw [xS (by omega),xS (by omega)]
    rfl
   have hka:Qg5 t (j:Int)=k:=by
    unfold Qg5
    rw [Int.toNat_natCast,h1]
    rfl
   rw [Qlq,hkb]
   simp only [if_true]
   rw [hka,Int.toNat_natCast,ih k _ (x-Qap (t.kids.take j)) r (by have:=Qay h1;omega) h4]
   congr 1
   omega
theorem Zai (N:Nat):∀ (t:Tr) (x:Nat) (q:List Int),SizeOf.sizeOf t≤N→(Zag t)[x]? = some q→q.length+1≤Qak t:=by
 induction N with
 | zero=>intro t x q h;have:=Qgu t;omega
 | succ N ih =>
  intro t x q hN h
  rw [Zah] at h
  cases x with
  | zero =>
   simp at h
   subst h
   rw [Qa0]
   simp
  | succ x =>
   rw [List.getElem?_cons_succ] at h
   obtain ⟨j,k,r,h1,h2,h3,h4⟩:=Qpm t.kids 0 x q h
   have h5:=ih k _ r (by have:=Qay h1;omega) h4
   have h6:=Qm4 h1
   rw [h2,xD]
   omega
theorem PsAt.at {w:World} {B n c j:Nat} {A:Option Addr} {ps:List (List Int)} {p:List Int} (h:PsAt w B (.slice A n c) ps) (hp:ps[j]? = some p) :
  ∃ g a c',A=some ⟨g,0,none⟩∧g<w.heap.size∧w.cell? ⟨g,j,none⟩=some (.slice a p.length c')∧IntRow w B (.slice a p.length c') p:=by
 obtain ⟨vs,h1,h2⟩:=h
 have hj:=(xP.1 hp).1
 rcases h1.2 with ⟨_,h0⟩|⟨g,cap,cur,hv,hb,hh,hnc,hm,hsz,htk⟩
 ·omega
 ·injection hv with e1 e2 e3
  have hl:=h1.1
  obtain ⟨v,hvj⟩:∃ v,vs[j]? = some v:=⟨_,xF (by omega)⟩
  have hr:=h2 j v p hvj hp
  obtain ⟨a,c',rfl⟩:=Qc6 hr
  refine ⟨g,a,c',e1,Qaa hh,?_,hr⟩
  rw [Lib.cell_of_heap hh]
  rw [←htk,List.getElem?_take_of_lt (by omega)] at hvj
  rw [←Array.getElem?_toList]
  exact hvj
theorem PsAt.shape {w:World} {B:Nat} {L:Value} {ps:List (List Int)} (h:PsAt w B L ps):∃ A c,L = .slice A ps.length c:=by
 obtain ⟨vs,h1,_⟩:=h
 exact Qc6 h1
def Qei:List Int→List Int→Bool
 | [],[]=>true
 | x :: r,y :: s=>(x==y) && Qei r s
 | _,_=>false
theorem Qjh:(p:List Int)→Qei p p=true
 | []=>rfl
 | x :: r=>by rw [Qei,Qjh r];simp
theorem Qoe:(p q:List Int)→(Qei p q=true ↔ p=q)
 | [],[]=>by simp [Qei]
 | [],_ :: _=>by simp [Qei]
 | _ :: _,[]=>by simp [Qei]
 | x :: r,y :: s=>by rw [Qei,Bool.and_eq_true,Qoe r s];simp
def SPAt (p q:List Int) (w:World) (i:Value) (wr:World):Prop:=∃ j:Nat,i = .int .i64 j∧j≤p.length∧Qei p q=Qei (p.drop j) (q.drop j)∧∃ n:Nat,wr=w.drewN n
theorem Qkz (A C:Option Addr) (a c:Nat) (p q:List Int) (w:World) (hA:IntsAt w A p) (hC:IntsAt w C q) (hp:p.length≤maxLen) (hq:q.length≤maxLen) :
  Calls Tryz.prog 31 #[.slice A p.length a,.slice C q.length c] w fun e w'=>e = .returned (.bool (Qei p q))∧∃ n:Nat,w'=w.drewN n:=by
 have HA:=hQ hA
 have HC:=hQ hC
 have hp6:p.length≤9223372036854775807:=by unfold maxLen at hp;omega
 have hq6:q.length≤9223372036854775807:=by unfold maxLen at hq;omega
 have mixedL:Tryz.prog.follows Departure.mixedOrders=true:=Qvq
 clear hA hC hp hq
 by_cases hl:p.length=q.length
 ·have HL:=hQ hl
  rw [show Value.slice C q.length c = .slice C p.length c from by rw [hl]]
  clear hl hq6
  go_enter Tryz.func31,Tryz.ntmps31
  go_wp2
  go_loopw [5] (fun i wr=>SPAt p q w i wr) (fun i _=>p.length-(intOf i).toNat)
  case atStart=>exact ⟨0,rfl,xZ _,rfl,0,rfl⟩
  case round =>
   obtain ⟨j,rfl,hj,hf,n,rfl⟩:=hrel
   have HF:=hQ hf
   clear hf
   by_cases hlt:j<p.length
   ·obtain ⟨x,hx⟩:∃ x,p[j]? = some x:=⟨_,xF hlt⟩
    obtain ⟨y,hy⟩:∃ y,q[j]? = some y:=⟨_,xF (by rw [←HL.out];exact hlt)⟩
    obtain ⟨ab,ao,rfl,abl,hac⟩:=HA.out.at hlt
    obtain ⟨cb,co,rfl,cbl,hcc⟩:=HC.out.at (show j<q.length by rw [←HL.out];exact hlt)
    have a0:=hac j x hx
    have c0:=hcc j y hy
    have HD:=hQ (show Qei (p.drop j) (q.drop j)=((x==y) && Qei (p.drop (j+1)) (q.drop (j+1))) from by rw [Qhd hx,Qhd hy,Qei])
    have hja:(j:Int)<(p.length:Int):=by omega
    have hj0:(0:Int)≤(j:Int):=by omega
    clear hac hcc hx hy
    by_cases hxy:x=y
    ·subst hxy
     have HR:=hQ (show Qei p q=Qei (p.drop (j+1)) (q.drop (j+1)) from by rw [HF.out,HD.out];simp)
     go_wp2_with fail
     go_region_o
     all_goals
      go_wp2
      go_roundw
      case measure=>simp [intOf];omega
      case rel=>exact ⟨j+1,by go_num,by omega,HR.out,n+1,rfl⟩
    ·have e1:(x==y)=false:=beq_eq_false_iff_ne.2 hxy
     have e2:(x != y)=true:=by rw [bne_iff_ne];exact hxy
     have HR:=hQ (show Qei p q=false from by rw [HF.out,HD.out,e1];rfl)
     go_wp2_with fail
     go_region_o
     all_goals
      go_wp2
      go_ret
      exact ⟨Qah HR.out.symm,n+1,rfl⟩
   ·have HR:=hQ (show Qei p q=true from by rw [HF.out,List.drop_eq_nil_of_le (by omega),List.drop_eq_nil_of_le (by have:=HL.out;omega)];rfl)
    go_wp2
    go_ret
    exact ⟨Qah HR.out.symm,n,rfl⟩
 ·have HR:=hQ (show Qei p q=false from by
   cases h:Qei p q with
   | false=>rfl
   | true=>exact absurd (congrArg List.length ((Qoe p q).1 h)) hl)
  have e1:((p.length:Int)==(q.length:Int))=false:=beq_eq_false_iff_ne.2 (by omega)
  have e2:((p.length:Int) != (q.length:Int))=true:=by rw [bne_iff_ne];omega
  have e3:(p.length==q.length)=false:=beq_eq_false_iff_ne.2 hl
  have e4:(p.length != q.length)=true:=by rw [bne_iff_ne];exact hl
  go_enter Tryz.func31,Tryz.ntmps31
  go_wp2
  go_ret
  exact ⟨Qah HR.out.symm,0,rfl⟩
theorem Qq7 (w:World) (n:Nat):Below w.heap.size w (w.drewN n):=⟨rfl,rfl,rfl,xA _,fun _ _=>rfl⟩
theorem Qlg (A C:Option Addr) (a c:Nat) (p q:List Int) (w:World) (hA:IntsAt w A p) (hC:IntsAt w C q) (hp:p.length≤maxLen) (hq:q.length≤maxLen) :
  Calls Tryz.prog 31 #[.slice A p.length a,.slice C q.length c] w fun e w'=>e = .returned (.bool (Qei p q))∧Below w.heap.size w w' :=
 (Qkz A C a c p q w hA hC hp hq).mono fun _ _ ⟨he,n,hn⟩=>⟨he,by rw [hn];exact Qq7 w n⟩
theorem Zas {n:Int} (h:0≤n):Qat 1 n=3:=by
 unfold Qat
 rw [xO rfl,xO h]
theorem Qwq {n:Int} (h:0≤Qat 2 n):6≤Qat 2 n:=by
 unfold Qat at h ⊢
 rw [xN (by decide),xO rfl] at h ⊢
 split at h <;> (rw [Int.max_def] at *;repeat' split) <;> omega
theorem Zat {k n:Int} (hk:k=4∨k=8∨k=22) (h:0≤Qat k n):Qat k n=2:=by
 rcases hk with rfl | rfl | rfl <;> (unfold Qat Qbb at h ⊢;simp at h ⊢;omega)
theorem Qwr {k n:Int} (hk:k≠17) (h:0≤Qat k n):1≤Qat k n:=by
 unfold Qat Qbb at h ⊢
 simp only [Int.max_def] at h ⊢
 repeat' split at h
 all_goals first | omega | (simp_all;done) | (simp_all;omega)
theorem Qws {k n:Int} (h:0≤n):Qat k n≤n+6:=by
 unfold Qat Qbb
 simp only [Int.max_def]
 repeat' split
 all_goals omega
theorem Qlh (k:Int) (n:Nat):∀ (l:List Tr) (i j:Nat) (a:Tr),Qcn k n i l=true→l[j]? = some a→Qcv a=true
 | [],_,j,a,_,h=>by simp at h
 | t :: r,i,j,a,hs,h=>by
  rw [Qcn,Bool.and_eq_true,Bool.and_eq_true] at hs
  cases j with
  | zero=>simp at h;subst h;exact hs.1.2
  | succ j=>exact Qlh k n r (i+1) j a hs.2 (by simpa using h)
theorem Qka {t:Tr} (h:Qcv t=true):0≤Qat t.kind t.kids.length∧∀ (j:Nat) (k:Tr),t.kids[j]? = some k→Qcv k=true:=by
 rw [Qhh,Bool.and_eq_true,Bool.and_eq_true] at h
 exact ⟨by have:=h.1.1;simp at this;omega,fun j k hk=>Qlh _ _ _ 0 j k h.2 hk⟩
theorem Qwt (n:Nat) (w:World) (hn:n≤1000000):Calls Tryz.prog 211 #[.int .i64 n] w fun e w'=>∃ r,e = .returned r∧w'.ownsRow w.heap.size 9 1 r n ((List.replicate n (⟨#[32]⟩:ByteArray)).map Value.string)∧Below w.heap.size w w':=by
 have HN:=hQ hn
 obtain ⟨is,his,s0,s1,s2⟩:=info_parts Qdd
 go_enter Tryz.func211,Tryz.ntmps211
 go_wp2
 go_loopw [3,4] (fun l i wr=>∃ j:Nat,i = .int .i64 j∧j≤n∧wr.ownsRow w.heap.size 9 1 l j ((List.replicate j (⟨#[32]⟩:ByteArray)).map Value.string)∧Below w.heap.size w wr) (fun _ i _=>n-(intOf i).toNat)
 case atStart=>exact ⟨0,rfl,xZ _,World.ownsRow_nil _ _ _ _,xC _ _⟩
 case round =>
  obtain ⟨j,rfl,hj,hown,hb⟩:=hrel
  have HO:=hQ hown
  have HB:=hQ hb
  clear hown hb
  by_cases hlt:j<n
  ·have HL1:=hQ (show j+1≤maxLen from by have:=HN.out;unfold maxLen;omega)
   have HL2:=hQ (show (j+1)*16≤140737488355328 from by have:=HN.out;omega)
   have HW:=hQ ((xC wr.heap.size wr).alloc (xA _) (.cells #[.string ⟨#[32]⟩] 9))
   have HJ:=hQ hj
   clear hj
   have HNW:=hQ (xM (w:=wr.alloc (.cells #[.string ⟨#[32]⟩] 9)) (cs:=#[.string ⟨#[32]⟩]) (t:=9) (fr:=(0,0)) (xH wr _))
   have HON:=hQ (Qmk [⟨#[32]⟩])
   have HSZ:=hQ (show w.heap.size≤(wr.alloc (.cells #[.string ⟨#[32]⟩] 9)).heap.size from by rw [xI];have:=HB.out.size;omega)
   have HOA:=hQ (HO.out.alloc (.cells #[.string ⟨#[32]⟩] 9))
   go_wp2_with (at_builtin;refine wpList_append_lies _ rfl _ _ 27 rfl w.heap.size 9 is _ 1 16 Tryz.underlying27 his s0 s1 s2 rfl (by decide) _ j ((List.replicate j (⟨#[32]⟩:ByteArray)).map Value.string) rfl HOA.out ⟨wr.heap.size,0,none⟩ 1 1 [.string ⟨#[32]⟩] rfl rfl HNW.out HON.out (by decide) HL1.out HL2.out HSZ.out _ rfl ?_;intro g c w3 hown hgr _ hlt3;have HO3:=hQ hown;have HB3:=hQ ((HB.out.trans (HW.out.mono HB.out.size)).grown hgr HSZ.out (fun k hk=>(HO.out.lt k hk).1));clear hown hgr hlt3)
   go_roundw
   case rel =>
    refine ⟨j+1,by go_num,by omega,?_,HB3.out⟩
    rw [List.replicate_succ',List.map_append]
    exact HO3.out
   case measure=>simp [intOf];omega
  ·obtain rfl:j=n:=by omega
   go_wp2
   go_ret
   exact ⟨_,rfl,HO.out,HB.out⟩
def BefP (w:World) (e:Ending) (w':World):Prop:=∃ s:ByteArray,e = .returned (.string s)∧s.size≤5∧Below w.heap.size w w'
theorem Qwu (v:TV) (i:Nat) (s:ByteArray) (w:World) (hs:s.size≤5):Calls Tryz.prog 212 #[.agg #[.int .i64 v.kind,.string v.text,.slice v.la v.ll v.lc,.slice v.ka v.kl v.kc],.int .i64 i,.string s] w (BefP w):=by
 obtain ⟨vk,vx,vla,vll,vlc,vka,vkl,vkc⟩:=v
 have HB0:=hQ ((xC w.heap.size w).alloc (xA _) (trO ⟨vk,vx,vla,vll,vlc,vka,vkl,vkc⟩))
 have HS:=hQ hs
 clear hs
 by_cases h1:vk=1
 ·subst h1
  go_enter Tryz.func212,Tryz.ntmps212
  go_wp2
  go_ret
  exact ⟨_,rfl,by decide,HB0.out⟩
 have d1:decide (vk=1)=false:=xR h1
 have e1:=Qco h1
 by_cases hi:0<i
 ·go_enter Tryz.func212,Tryz.ntmps212
  go_wp2
  go_ret
  exact ⟨_,rfl,by decide,HB0.out⟩
 obtain rfl:i=0:=by omega
 by_cases h2:vk=8∨vk=22∨vk=16∨vk=18
 ·rcases h2 with rfl | rfl | rfl | rfl
  all_goals
   go_enter Tryz.func212,Tryz.ntmps212
   go_wp2
   go_ret
   exact ⟨_,rfl,by decide,HB0.out⟩
 by_cases h3:vk=2
 ·subst h3
  by_cases hl:2<vkl
  ·go_enter Tryz.func212,Tryz.ntmps212
   go_wp2
   go_ret
   exact ⟨_,rfl,by decide,HB0.out⟩
  ·have dl:decide (2<vkl)=false:=xR hl
   go_enter Tryz.func212,Tryz.ntmps212
   go_wp2
   go_ret
   exact ⟨_,rfl,by decide,HB0.out⟩
 by_cases h4:vk=17∨vk=21
 ·rcases h4 with rfl | rfl
  all_goals
   go_enter Tryz.func212,Tryz.ntmps212
   go_wp2
   go_ret
   exact ⟨_,rfl,HS.out,HB0.out⟩
 have n8:vk≠8:=fun h=>h2 (.inl h)
 have n22:vk≠22:=fun h=>h2 (.inr (.inl h))
 have n16:vk≠16:=fun h=>h2 (.inr (.inr (.inl h)))
 have n18:vk≠18:=fun h=>h2 (.inr (.inr (.inr h)))
 have n17:vk≠17:=fun h=>h4 (.inl h)
 have n21:vk≠21:=fun h=>h4 (.inr h)
 have q8:=Qco n8
 have q22:=Qco n22
 have q16:=Qco n16
 have q18:=Qco n18
 have q17:=Qco n17
 have q21:=Qco n21
 have q2:=Qco h3
 clear h2 h4
 go_enter Tryz.func212,Tryz.ntmps212
 go_wp2
 go_ret
 exact ⟨_,rfl,by decide,HB0.out⟩
structure LdU (R U:Nat) (k:Int) (x:ByteArray) (la:Option Addr) (q lc:Nat) (wr:World):Prop where
 blk:wr.heap[U]? = some (trO ⟨k,x,la,q,lc,none,0,0⟩)
 ru:R<U
 cap:q≤lc
 ld:∃ ls:List ByteArray,ls.length=q∧(∀ y∈ls,y.size≤5)∧(0<q→∃ g cs,la=some ⟨g,0,none⟩∧wr.heap[g]? = some (.cells cs 9 (0,0))∧R<g∧g≠U∧∀ (i:Nat) (s:ByteArray),ls[i]? = some s→cs[i]? = some (.string s))
theorem LdU.keep {R U:Nat} {k:Int} {x:ByteArray} {la:Option Addr} {q lc:Nat} {wr w':World} (h:LdU R U k x la q lc wr) (hb:Below wr.heap.size wr w'):LdU R U k x la q lc w':=by
 obtain ⟨h1,h2,h3,ls,h4,h5,h6⟩:=h
 refine ⟨(hb.block U (Qaa h1)).trans h1,h2,h3,ls,h4,h5,fun hq=>?_⟩
 obtain ⟨g,cs,q1,q2,q3⟩:=h6 hq
 exact ⟨g,cs,q1,(hb.block g (Qaa q2)).trans q2,q3⟩
theorem LdU.put {R U g i:Nat} {k:Int} {x s:ByteArray} {q lc:Nat} {wr:World} (h:LdU R U k x (some ⟨g,0,none⟩) q lc wr) (hi:i<q) (hs:s.size≤5):LdU R U k x (some ⟨g,0,none⟩) q lc (wr.setCell ⟨g,i,none⟩ (.string s)):=by
 obtain ⟨h1,h2,h3,ls,h4,h5,h6⟩:=h
 obtain ⟨g',cs,q1,q2,q3,q4,q5⟩:=h6 (by omega)
 injection q1 with q1
 injection q1 with q1 _ _
 subst q1
 refine ⟨(Qav (fun e=>q4 e.symm)).trans h1,h2,h3,ls.set i s,by rw [List.length_set,h4],fun y hy=>?_,fun _=>⟨g,_,rfl,Qa2 q2 rfl,q3,q4,fun j z hz=>?_⟩⟩
 ·rcases List.mem_or_eq_of_mem_set hy with h | h
  ·exact h5 y h
  ·rw [h];exact hs
 ·have hcs:i<cs.size:=by
   obtain ⟨z',hz'⟩:∃ z,ls[i]? = some z:=⟨_,xF (by omega)⟩
   exact (Array.getElem?_eq_some_iff.1 (q5 i z' hz')).1
  by_cases hj:j=i
  ·subst hj
   rw [List.getElem?_set_self (by omega)] at hz
   injection hz with hz
   subst hz
   rw [Array.getElem?_setIfInBounds_self_of_lt hcs]
  ·rw [List.getElem?_set_ne (fun e=>hj e.symm)] at hz
   rw [xY (fun e=>hj e.symm)]
   exact q5 j z hz
theorem LdU.at {R U i:Nat} {k:Int} {x:ByteArray} {la:Option Addr} {q lc:Nat} {wr:World} (h:LdU R U k x la q lc wr) (hi:i<q):∃ g,la=some ⟨g,0,none⟩∧R<g∧g≠U∧g<wr.heap.size∧(∀ o,wr.frozen? ⟨g,o,none⟩=false)∧∀ j,j<q→∃ s,wr.cell? ⟨g,j,none⟩=some (.string s):=by
 obtain ⟨h1,h2,h3,ls,h4,h5,h6⟩:=h
 obtain ⟨g,cs,q1,q2,q3,q4,q5⟩:=h6 (by omega)
 refine ⟨g,q1,q3,q4,Qaa q2,fun o=>xL q2 _,fun j hj=>?_⟩
 obtain ⟨s,hs⟩:∃ s,ls[j]? = some s:=⟨_,xF (by omega)⟩
 exact ⟨s,Qab q2 j _ (q5 j s hs)⟩
structure RowK (G:Nat) (wr:World) (ks:List Tr) (vs:List TV):Prop where
 len:vs.length=ks.length
 row:∃ cs,wr.heap[G]? = some (.cells cs 29 (0,0))∧RowIs cs vs
 kid:∀ (i:Nat) (k:Tr) (u:TV),ks[i]? = some k→vs[i]? = some u→TrAt (fun b=>G<b∧b<wr.heap.size) wr k u
theorem RowK.other {G:Nat} {wr w':World} {ks:List Tr} {vs:List TV} (h:RowK G wr ks vs) (hs:wr.heap.size≤w'.heap.size) (hb:∀ b,G≤b→b<wr.heap.size→w'.heap[b]? = wr.heap[b]?):RowK G w' ks vs:=by
 obtain ⟨h1,⟨cs,h2,h3⟩,h4⟩:=h
 exact ⟨h1,⟨cs,(hb G (xA _) (Qaa h2)).trans h2,h3⟩,fun i k u hk hu=>TrAt.move (fun b hb'=>⟨hb'.1,by omega⟩) (fun b hb' hl=>hb b (by omega) hl) _ _ (h4 i k u hk hu)⟩
theorem Qwv {cs:Array Value} {vs:List TV} (h:RowIs cs vs) (y:TV) (j:Nat) (hj:j=vs.length) (hs:j*4+4≤cs.size):RowIs (Zd2 cs (j*4) y) (vs ++ [y]):=by
 subst hj
 intro i v hv
 by_cases hi:i<vs.length
 ·rw [yB hi] at hv
  obtain ⟨q0,q1,q2,q3⟩:=h i v hv
  exact ⟨(Qis cs _ y _ (by omega)).trans q0,(Qis cs _ y _ (by omega)).trans q1,(Qis cs _ y _ (by omega)).trans q2,(Qis cs _ y _ (by omega)).trans q3⟩
 ·have hl:=(xP.1 hv).1
  rw [xB,List.length_singleton] at hl
  obtain rfl:i=vs.length:=by omega
  rw [xX (xA _),Nat.sub_self] at hv
  injection hv with hv
  subst hv
  unfold Zd2
  refine ⟨?_,?_,?_,?_⟩
  ·rw [xY (by omega),xY (by omega),xY (by omega),Array.getElem?_setIfInBounds_self_of_lt (by omega)]
  ·rw [xY (by omega),xY (by omega),Array.getElem?_setIfInBounds_self_of_lt (by simp;omega)]
  ·rw [xY (by omega),Array.getElem?_setIfInBounds_self_of_lt (by simp;omega)]
  ·rw [Array.getElem?_setIfInBounds_self_of_lt (by simp;omega)]
theorem RowK.snoc {G j:Nat} {w5:World} {ks:List Tr} {vs:List TV} {t:Tr} {y:TV} (h:RowK G w5 ks vs) (hj:j=ks.length) (hc:∀ cs,w5.heap[G]? = some (.cells cs 29 (0,0))→j*4+4≤cs.size) (ht:TrAt (fun b=>G<b∧b<w5.heap.size) w5 t y):RowK G (Zbh w5 G (j*4) y) (ks ++ [t]) (vs ++ [y]):=by
 obtain ⟨h1,⟨cs,h2,h3⟩,h4⟩:=h
 have hz:=Qm2 w5 G (j*4) y
 refine ⟨by rw [xB,xB,h1];rfl,⟨_,Qm1 (j*4) y h2,Qwv h3 y j (by rw [h1];exact hj) (hc cs h2)⟩,fun i k u hk hu=>?_⟩
 have hmv:∀ (k:Tr) (u:TV),TrAt (fun b=>G<b∧b<w5.heap.size) w5 k u→TrAt (fun b=>G<b∧b<(Zbh w5 G (j*4) y).heap.size) (Zbh w5 G (j*4) y) k u:=fun k u h=>TrAt.move (fun b hb=>⟨hb.1,by rw [hz];exact hb.2⟩) (fun b hb _=>Qem (j*4) y (by omega)) _ _ h
 by_cases hi:i<ks.length
 ·rw [yB hi] at hk
  rw [yB (by rw [h1];exact hi)] at hu
  exact hmv _ _ (h4 i k u hk hu)
 ·have hl:=(xP.1 hk).1
  rw [xB,List.length_singleton] at hl
  obtain rfl:i=ks.length:=by omega
  rw [xX (xA _),Nat.sub_self] at hk
  rw [←h1,xX (xA _),Nat.sub_self] at hu
  injection hk with hk
  injection hu with hu
  subst hk hu
  exact hmv _ _ ht
def ArrP (t:Tr) (w:World) (e:Ending) (w':World):Prop:=∃ (t':Tr) (u:TV),e = .returned (.agg #[.int .i64 u.kind,.string u.text,.slice u.la u.ll u.lc,.slice u.ka u.kl u.kc])∧TrAt (fun b=>w.heap.size≤b∧b<w'.heap.size) w' t' u∧Qak t'=Qak t∧Qfw t'=true∧Below w.heap.size w w'∧t'.kind=t.kind
structure ArE (kd:Int) (U G:Nat) (la:Option Addr) (q lc:Nat) (t:Tr) (v:TV) (ks:List Tr) (vs:List TV) (w wr:World):Prop where
 ld:LdU (w.heap.size+1) U kd t.text la q lc wr
 res:wr.heap[w.heap.size+1]? = some (.cells #[.int .i64 0,.string ⟨#[]⟩,.slice none 0 0,.slice none 0 0] 29 (0,0))
 box:wr.heap[w.heap.size]? = some (trO v)
 row:RowK G wr ks vs
 ug:U<G
 lg:0<q→∀ g,la=some ⟨g,0,none⟩→g<G
 below:Below w.heap.size w wr
theorem ArE.put {kd:Int} {U G g i:Nat} {q lc:Nat} {t:Tr} {v:TV} {ks:List Tr} {vs:List TV} {w wr:World} {s:ByteArray} (h:ArE kd U G (some ⟨g,0,none⟩) q lc t v ks vs w wr) (hi:i<q) (hs:s.size≤5):ArE kd U G (some ⟨g,0,none⟩) q lc t v ks vs w (wr.setCell ⟨g,i,none⟩ (.string s)):=by
 obtain ⟨g',e,h1,h2,h3,_⟩:=h.ld.at hi
 injection e with e
 injection e with e _ _
 subst e
 have hg:=h.lg (by omega) g rfl
 have hz:(wr.setCell ⟨g,i,none⟩ (.string s)).heap.size=wr.heap.size:=by simp [World.setCell]
 exact ⟨h.ld.put hi hs,(Qav (by omega)).trans h.res,(Qav (by omega)).trans h.box,h.row.other (by rw [hz];exact xA _) (fun b hb _=>Qav (by omega)),h.ug,h.lg,h.below.setCell (p:=⟨g,i,none⟩) (by show w.heap.size≤g;omega) _⟩
theorem ArE.drew {kd:Int} {U G:Nat} {la:Option Addr} {q lc:Nat} {t:Tr} {v:TV} {ks:List Tr} {vs:List TV} {w wr:World} (h:ArE kd U G la q lc t v ks vs w wr):ArE kd U G la q lc t v ks vs w wr.drew :=
 ⟨h.ld.keep ((xC _ _).drew),h.res,h.box,h.row.other (xA _) (fun _ _ _=>rfl),h.ug,h.lg,h.below.drew⟩
theorem ArE.made {kd:Int} {U G:Nat} {la:Option Addr} {q lc n:Nat} {t:Tr} {v:TV} {ks:List Tr} {vs:List TV} {w wr:World} (h:ArE kd U G la q lc t v ks vs w wr) (hx:t.text.size≤7) (hq:q≤n+6) (hn:n=ks.length) (hs:Qap ks=Qap t.kids) (ht:Qbk ks=true) (hk':kd=t.kind) :
  ArrP t w (.returned (.agg #[.int .i64 kd,.string t.text,.slice la q lc,.slice (some ⟨G,0,none⟩) n n])) (Qf3 (wr.setCell ⟨U,3,none⟩ (.slice (some ⟨G,0,none⟩) n n)) (w.heap.size+1) ⟨kd,t.text,la,q,lc,some ⟨G,0,none⟩,n,n⟩):=by
 subst hn
 obtain ⟨ls,l1,l2,l3⟩:=h.ld.ld
 have hU:=h.ld.ru
 have hUG:=h.ug
 obtain ⟨cs,r1,r2⟩:=h.row.row
 have hG:=Qaa r1
 have hz:(Qf3 (wr.setCell ⟨U,3,none⟩ (.slice (some ⟨G,0,none⟩) ks.length ks.length)) (w.heap.size+1) ⟨kd,t.text,la,q,lc,some ⟨G,0,none⟩,ks.length,ks.length⟩).heap.size=wr.heap.size:=by rw [Qdm];simp [World.setCell]
 have hk:∀ b,b≠U→b≠w.heap.size+1→(Qf3 (wr.setCell ⟨U,3,none⟩ (.slice (some ⟨G,0,none⟩) ks.length ks.length)) (w.heap.size+1) ⟨kd,t.text,la,q,lc,some ⟨G,0,none⟩,ks.length,ks.length⟩).heap[b]? = wr.heap[b]?:=fun b h1 h2=>(Qbw _ h2).trans (Qav h1)
 refine ⟨.mk kd t.text ls ks,⟨kd,t.text,la,q,lc,some ⟨G,0,none⟩,ks.length,ks.length⟩,rfl,?_,by rw [Qak,Qa0,hs],Qcd.2 ⟨hx,by omega,l2,ht⟩,(h.below.setCell (p:=⟨U,3,none⟩) (by show w.heap.size≤U;omega) _).trans ((Qcl _ (w.heap.size+1) _).mono (by omega)),hk'⟩
 unfold TrAt
 refine ⟨rfl,rfl,l1.symm,rfl,fun hne=>?_,fun hne=>?_,h.ld.cap,xA _⟩
 ·obtain ⟨g,cg,q1,q2,q3,q4,q5⟩:=l3 (by rw [←l1];exact List.length_pos_iff.2 hne)
  refine ⟨g,0,q1,⟨by omega,by rw [hz];exact Qaa q2⟩,fun i y hy=>?_⟩
  rw [Nat.zero_add]
  exact (xJ (w:=wr) (a:=⟨g,i,none⟩) (hk g q4 (by omega))).trans (Qab q2 i _ (q5 i y hy))
 ·refine ⟨G,0,rfl,⟨by omega,by rw [hz];exact hG⟩,TrsAt.of ks 0 fun i k hki=>?_⟩
  have hi:=(xP.1 hki).1
  obtain ⟨u,hu⟩:∃ u,vs[i]? = some u:=⟨_,xF (by rw [h.row.len];exact hi)⟩
  obtain ⟨q0,q1,q2,q3⟩:=r2 i u hu
  have hc:∀ (o:Nat) (z:Value),cs[o]? = some z→(Qf3 (wr.setCell ⟨U,3,none⟩ (.slice (some ⟨G,0,none⟩) ks.length ks.length)) (w.heap.size+1) ⟨kd,t.text,la,q,lc,some ⟨G,0,none⟩,ks.length,ks.length⟩).cell? ⟨G,o,none⟩=some z:=fun o z hz=>(xJ (w:=wr) (a:=⟨G,o,none⟩) (hk G (by omega) (by omega))).trans (Qab r1 o _ hz)
  rw [Nat.zero_add]
  exact ⟨u,hc _ _ q0,hc _ _ q1,hc _ _ q2,hc _ _ q3,TrAt.move (fun b hb=>⟨by omega,by rw [hz];exact hb.2⟩) (fun b hb _=>hk b (by omega) (by omega)) _ _ (h.row.kid i k u hki hu)⟩
end Go.Proofs.YtjidpkcjpgdafaaGreat
