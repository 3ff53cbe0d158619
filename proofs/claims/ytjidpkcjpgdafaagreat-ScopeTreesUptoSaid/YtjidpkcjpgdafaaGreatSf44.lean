/- Part 44 -/
import Derived.Test.YtjidpkcjpgdafaaGreatSf42
import Derived.Test.YtjidpkcjpgdafaaGreatSf43
import Derived.Lib.AppendZerosOnto
import Derived.Lib.Walk
import Derived.Lib.SliceRun
set_option maxRecDepth 100000
set_option maxHeartbeats 4000000
namespace Go.Proofs.YtjidpkcjpgdafaaGreat
open Go.RowKit Go.Shelf
theorem Qw8:(Tryz.prog.info? 3).map (fun i=>(i.zero,i.size,i.bytes))=some (some (.int .i64 0),1,8):=by kernel_rfl
section
variable {P:Program} {w:World} {ops:Array Oper} {rest:List Oper} {o:Oper} {a:Act} {Q:Exit→Act→World→Prop}
theorem Qfe (hgd:o.guard=none) (s x:Operand) (t:TypeId)
  (ho:o.op = .call { callee:=.builtin .append,args:=#[s,x],argTypes:=#[t,t] }) (e:TypeId) (i:TypeInfo) (ht:P.underlying t=some (.slice e)) (hi:P.info? e=some i)
  {ad:Addr} {n cap:Nat} (hs:a.eval s = .slice (some ad) n cap) (hn:n≤cap) {A:Option Addr} {m c:Nat} (hm:m=0) (hx:a.eval x = .slice A m c) (h:wpList P ops Q rest (a.put o.dst (.slice (some ad) n cap)) w):wpList P ops Q (o :: rest) a w:=by
 subst hm
 refine wpList_plain hgd fun K hK=>?_
 have hr:(Builtin.append_ #[t,t] o.type #[.slice (some ad) n cap,.slice A 0 c]).run P w = .ok (.slice (some ad) n cap) w:=by
  cases A <;> simp [Builtin.append_,run_underlying ht,sizeOf,typeInfo,hi,Builtin.lenOf,Builtin.firstCells,loadCells,loadCellsFrom,hn,storeCells]
 unfold Oper.wp execOp
 simp only [ho,resolve,invoke,builtin,Sem.run_bind,Sem.run_pure,Result.andThen_ok,List.map_toArray,List.map_cons,List.map_nil,hs,hx,hr]
 exact hK _ _ h
end
def IntRow (w:World) (B:Nat) (v:Value) (p:List Int):Prop:=w.ownsRow B 3 1 v p.length (p.map (Value.int .i64))
theorem IntRow.cells {w:World} {B n c:Nat} {A:Option Addr} {p:List Int} (h:IntRow w B (.slice A n c) p) (hp:0<p.length):∃ g,A=some ⟨g,0,none⟩∧∀ (j:Nat) (u:Value),(p.map (Value.int .i64))[j]? = some u→w.cell? ⟨g,0+j,none⟩=some u:=by
 rcases h.2 with ⟨_,h0⟩|⟨g,cap,cur,hv,hb,hh,hnc,hm,hsz,htk⟩
 ·omega
 ·injection hv with e1 e2 e3
  refine ⟨g,e1,fun j u hu=>?_⟩
  rw [Nat.zero_add,Lib.cell_of_heap hh]
  have hj:=(xP.1 hu).1
  rw [List.length_map] at hj
  rw [←htk,List.getElem?_take_of_lt (by omega)] at hu
  rw [←Array.getElem?_toList]
  exact hu
theorem Qff {w:World} {B n size:Nat} {T:TypeId} {v:Value} {xs:List Value} (h:w.ownsRow B T size v n xs):∀ k,v.ownBlock=some k→B≤k:=fun k hk=>by
 rcases h.2 with ⟨hv,_⟩|⟨g,_,_,hv,hb,_⟩
 ·subst hv
  cases hk
 ·subst hv
  injection hk with hk
  subst hk
  exact hb
theorem Qfg (p:List Int):∀ u∈p.map (Value.int .i64),u.oneCell'=true:=by
 intro u hu
 obtain ⟨x,_,rfl⟩:=List.mem_map.1 hu
 rfl
mutual
def Qes:Tr→List Int→List (List Int)
 | .mk _ _ _ ks,p=>p :: Qcn ks 0 p
def Qcn:List Tr→Nat→List Int→List (List Int)
 | [],_,_=>[]
 | t :: r,i,p=>Qes t (p ++ [(i:Int)]) ++ Qcn r (i+1) p
end
theorem Qu2 (t:Tr) (p:List Int):Qes t p=p :: Qcn t.kids 0 p:=by cases t;rw [Qes];rfl
theorem Qkv (t:Tr) (p:List Int):(l:List Tr)→(i:Nat)→Qcn (l ++ [t]) i p=Qcn l i p ++ Qes t (p ++ [((i+l.length:Nat):Int)])
 | [],i=>by rw [xU,Qcn,Qcn,Qcn,List.append_nil,xU];rfl
 | a :: r,i=>by
  rw [xV,Qcn,Qcn,Qkv t p r (i+1),xT,xD,show i+1+r.length=i+(r.length+1) from by omega]
mutual
theorem Qi1:(t:Tr)→(p:List Int)→(Qes t p).length=Qam t
 | .mk _ _ _ ks,p=>by rw [Qes,Qam,xD,Qi2 ks 0 p];omega
theorem Qi2:(l:List Tr)→(i:Nat)→(p:List Int)→(Qcn l i p).length=Qbb l
 | [],_,_=>by rw [Qcn,Qbb];rfl
 | t :: r,i,p=>by rw [Qcn,Qbb,xB,Qi1 t,Qi2 r]
end
structure PStep (B lb:Nat) (w w':World):Prop where
 os:w'.os=w.os
 tape:w'.tape=w.tape
 output:w'.output=w.output
 size:w.heap.size≤w'.heap.size
 block:∀ k,k<w.heap.size→k≠lb→(k<B∨∀ cs,w.heap[k]?≠some (.cells cs 23 (0,0)))→w'.heap[k]? = w.heap[k]?
theorem PStep.trans {B lb:Nat} {u v w:World} (h:PStep B lb u v) (k:PStep B lb v w):PStep B lb u w :=
 ⟨k.os.trans h.os,k.tape.trans h.tape,k.output.trans h.output,xQ h.size k.size,fun i hi hl hc=>by
  have h1:=h.block i hi hl hc
  exact (k.block i (xE hi h.size) hl (hc.imp id fun hn cs=>by rw [h1];exact hn cs)).trans h1⟩
theorem PStep.below {B lb:Nat} {w w':World} (h:Below w.heap.size w w'):PStep B lb w w':=⟨h.os,h.tape,h.output,h.size,fun k hk _ _=>h.block k hk⟩
theorem PStep.grown {B lb n:Nat} {w w':World} {L:Value} {vs:List Value} (h:w.ownsRow B 23 1 L n vs) (hg:w.grownBy w' L.ownBlock):PStep B lb w w' :=
 ⟨hg.os,hg.tape,hg.output,hg.size,fun k hk _ hc=>hg.block k hk fun e=>by
  rcases h.2 with ⟨hv,_⟩|⟨g,cap,cur,hv,hb,hh,_⟩
  ·rw [hv] at e
   cases e
  ·rw [hv] at e
   injection e with e
   subst e
   rcases hc with hc | hc
   ·exact absurd hb (Nat.not_le_of_lt hc)
   ·exact hc cur hh⟩
theorem PStep.down {B lb:Nat} {w w':World} (h:PStep B lb w w') (hl:B≤lb) (hB:B≤w.heap.size):Below B w w':=⟨h.os,h.tape,h.output,h.size,fun k hk=>h.block k (xE hk hB) (by omega) (.inl hk)⟩
theorem PStep.other {B lb k:Nat} {w w':World} {cs:Array Value} {T:TypeId} (h:PStep B lb w w') (hk:w.heap[k]? = some (.cells cs T (0,0))) (hl:k≠lb) (hT:T≠23):w'.heap[k]? = some (.cells cs T (0,0)) :=
 (h.block k (Qab hk) hl (.inr fun cs' e=>by rw [hk] at e;injection e with e;injection e with _ e;exact hT e)).trans hk
theorem Qf8 {B size n:Nat} {w w':World} {T:TypeId} {v:Value} {xs:List Value} (h:w.ownsRow B T size v n xs) (hb:Below w.heap.size w w'):w'.ownsRow B T size v n xs:=by
 refine ⟨h.1,?_⟩
 rcases h.2 with h0|⟨g,cap,cur,hv,hb',hh,hr⟩
 ·exact .inl h0
 ·exact .inr ⟨g,cap,cur,hv,hb',(hb.block g (Qab hh)).trans hh,hr⟩
theorem Qej {B B' size n:Nat} {w:World} {T:TypeId} {v:Value} {xs:List Value} (h:w.ownsRow B T size v n xs) (hB:B'≤B):w.ownsRow B' T size v n xs:=by
 refine ⟨h.1,?_⟩
 rcases h.2 with h0|⟨g,cap,cur,hv,hb',hr⟩
 ·exact .inl h0
 ·exact .inr ⟨g,cap,cur,hv,xQ hB hb',hr⟩
theorem Qi3 (w:World) (a b:Obj):((w.alloc a).alloc b).heap[w.heap.size]? = some a∧((w.alloc a).alloc b).heap[w.heap.size+1]? = some b :=
 ⟨(Below.heap_alloc _ _ _ (by rw [xI];omega)).trans (xH w a),by rw [←xI w a];exact xH _ _⟩
theorem Qsf:(Tryz.prog.info? 23).map (fun i=>(i.zero,i.size,i.bytes))=some (some (.slice none 0 0),1,24):=by kernel_rfl
theorem Qpu {B n k:Nat} {w w':World} {L:Value} {vs:List Value} {cs:Array Value} {T:TypeId} (h:w.ownsRow B 23 1 L n vs) (hg:w.grownBy w' L.ownBlock) (hk:w.heap[k]? = some (.cells cs T (0,0))) (hT:T≠23):w'.heap[k]? = some (.cells cs T (0,0)) :=
 (hg.block k (Qab hk) (fun e=>by
  rcases h.2 with ⟨hv,_⟩|⟨g,cap,cur,hv,hb,hh,_⟩
  ·rw [hv] at e
   cases e
  ·rw [hv] at e
   injection e with e
   subst e
   rw [hk] at hh
   injection hh with hh
   injection hh with _ hh
   exact hT hh)).trans hk
theorem Qn6:(l:List Tr)→(j:Nat)→(k:Tr)→l[j]? = some k→Qbb (l.take j)+Qam k≤Qbb l
 | [],_,_,h=>by simp at h
 | a :: r,0,k,h=>by
  simp at h
  subst h
  rw [List.take_zero,Qbb,Qbb]
  omega
 | a :: r,j+1,k,h=>by
  have:=Qn6 r j k (by simpa using h)
  rw [List.take_succ_cons,Qbb,Qbb]
  omega
theorem Qqs {t k:Tr} {j:Nat} (h:t.kids[j]? = some k):Qbb (t.kids.take j)+Qam k≤Qbb t.kids:=Qn6 _ _ _ h
theorem Qkw {t k:Tr} {j:Nat} (h:t.kids[j]? = some k):1+Qam k≤Qam t:=by
 have h1:=Qqs h
 rw [Qa5 t]
 omega
def PsAt (w:World) (B:Nat) (L:Value) (ps:List (List Int)):Prop :=
 ∃ vs:List Value,w.ownsRow B 23 1 L ps.length vs∧∀ (i:Nat) (v:Value) (p:List Int),vs[i]? = some v→ps[i]? = some p→IntRow w B v p
theorem PsAt.keep {w w':World} {B:Nat} {L:Value} {ps:List (List Int)} (h:PsAt w B L ps) (hb:Below w.heap.size w w'):PsAt w' B L ps:=by
 obtain ⟨vs,h1,h2⟩:=h
 exact ⟨vs,Qf8 h1 hb,fun i v p hv hp=>Qf8 (h2 i v p hv hp) hb⟩
theorem Qbo {w w':World} {g o:Nat} {x:Value} (hb:Below w.heap.size w w') (hg:g<w.heap.size) (h:w.cell? ⟨g,o,none⟩=some x):w'.cell? ⟨g,o,none⟩=some x:=(xJ (w:=w) (a:=⟨g,o,none⟩) (hb.block g hg)).trans h
theorem Qqt:(zs:List Int)→(t u:Tr)→Qay t zs=some u→zs.length+Qam u≤Qam t
 | [],t,u,h=>by
  rw [Qay] at h
  injection h with h
  subst h
  simp
 | i :: r,t,u,h=>by
  unfold Qay at h
  split at h
  ·rename_i hk
   have h1:=Qqt r _ u h
   obtain ⟨_,_,h3⟩:=Qf2 hk
   have h2:=Qkw h3
   rw [xD]
   omega
  ·cases h
def AtK (t:Tr) (z:List Int) (w:World) (s7:Value) (wx:World):Prop:=∃ (g:Nat) (x:TV),s7 = .pointer (some ⟨g,0,none⟩)∧wx.heap[g]? = some (trO x)∧x.kind=((Qay t z).getD Qik).kind∧x.text=((Qay t z).getD Qik).text∧Below w.heap.size w wx
theorem Qjw {t:Tr} {z:List Int} {w w3:World} {x:TV} (hz:w3.heap[w.heap.size]? = some (trO ⟨0,⟨#[]⟩,none,0,0,none,0,0⟩)) (h1:x.kind=((Qay t z).getD Qik).kind) (h2:x.text=((Qay t z).getD Qik).text) (hb:Below w.heap.size w w3):AtK t z w (.pointer (some ⟨w.heap.size,0,none⟩)) (Qvf w3 w.heap.size x) :=
 ⟨w.heap.size,x,rfl,Qh4 x hz,h1,h2,hb.trans (Qck w3 w.heap.size x)⟩
theorem Qif {t:Tr} {z:List Int} {w w3:World} {x:TV} (h1:x.kind=((Qay t z).getD Qik).kind) (h2:x.text=((Qay t z).getD Qik).text) (hb:Below w.heap.size w w3):AtK t z w (.pointer (some ⟨w3.heap.size,0,none⟩)) (w3.alloc (trO x)) :=
 ⟨w3.heap.size,x,rfl,xH _ _,h1,h2,hb.alloc hb.size _⟩
theorem Qsg {x y:ByteArray} (h:y≠x):(y.toList==x.toList)=false:=by
 rw [beq_eq_false_iff_ne]
 exact fun e=>h (Qkn e)
theorem Qu3:(Tryz.prog.info? 23).map (fun i=>(i.zero,i.size,i.bytes))=some (some (.slice none 0 0),1,24):=by kernel_rfl
theorem Qg5 (S:Nat→Prop) (t:Tr) (v:TV) (w:World) (ht:TrAt S w t v) (hw:Qc2 t=true) (hz:Qam t≤1000) :
  Calls Tryz.prog 68 #[.agg #[.int .i64 v.kind,.string v.text,.slice v.la v.ll v.lc,.slice v.ka v.kl v.kc]] w fun e w'=>e = .returned (.bool (Qd0 t))∧Below w.heap.size w w':=by
 have hb0:=Qaf w (trO v)
 have HT:=hQ (ht.keep hb0)
 have HX:=hQ (xH w (trO v))
 have HB0:=hQ hb0
 have HW:=hQ hw
 have HZ:=hQ hz
 have HSS:=hQ (Qf7 _ t (xA _) hz)
 have hkd:=ht.kl.2.2.1
 obtain ⟨vk,vx,vla,vll,vlc,vka,vkl,vkc⟩:=v
 simp only at hkd
 subst hkd
 clear ht hb0 hw hz
 by_cases h2:t.kind=2
 ·have HF:=hQ (show Qd0 t=Qau t from by unfold Qd0;rw [xS h2,Bool.true_and])
  have d2':(t.kind==2)=true:=by simpa using h2
  go_enter Tryz.func68,Tryz.ntmps68
  clear h2
  go_wp2_with (go_at_call 98;refine (Qpv _ _ t _ _ (xA _) HT.out HZ.out HW.out).mono ?_;rintro e w1 ⟨rfl,hb⟩;have HB1:=hQ (HB0.out.trans (hb.mono HB0.out.size));clear hb)
  go_ret
  exact ⟨Qag (by rw [HF.out,HSS.out]),HB1.out⟩
 ·have HF:=hQ (show Qd0 t=false from by unfold Qd0;rw [xR h2,Bool.false_and])
  have d2':(t.kind==2)=false:=by simpa using h2
  go_enter Tryz.func68,Tryz.ntmps68
  clear h2
  go_wp2
  go_ret
  exact ⟨Qag HF.out.symm,HB0.out⟩
def PthAt (w:World) (lo:Nat) (v:Value) (p:List Int):Prop:=(∃ A c,v = .slice A p.length c∧(p≠[]→∃ b off,A=some ⟨b,off,none⟩∧b<lo∧∀ (i:Nat) (x:Int),p[i]? = some x→w.cell? ⟨b,off+i,none⟩=some (.int .i64 x)))∨IB w lo v p
theorem PthAt.ints {w:World} {lo:Nat} {v:Value} {p:List Int} (h:PthAt w lo v p) (hl:lo≤w.heap.size):∃ A c,v = .slice A p.length c∧IntsAt w A p:=by
 rcases h with ⟨A,c,e,h⟩ | h
 ·refine ⟨A,c,e,fun hne=>?_⟩
  obtain ⟨b,off,h1,h2,h3⟩:=h hne
  exact ⟨b,off,h1,by omega,h3⟩
 ·exact h.ints
theorem PthAt.keep {w w':World} {lo:Nat} {v:Value} {p:List Int} (h:PthAt w lo v p) (hl:lo≤w.heap.size) (hb:Below w.heap.size w w'):PthAt w' lo v p:=by
 rcases h with ⟨A,c,e,h⟩ | h
 ·refine .inl ⟨A,c,e,fun hne=>?_⟩
  obtain ⟨b,off,h1,h2,h3⟩:=h hne
  exact ⟨b,off,h1,h2,fun i x hx=>(xJ (w:=w) (a:=⟨b,off+i,none⟩) (hb.block b (by omega))).trans (h3 i x hx)⟩
 ·exact .inr (h.keep hb)
theorem PthAt.of_ints {w w':World} {A:Option Addr} {p:List Int} (h:IntsAt w A p) (hb:Below w.heap.size w w') (c:Nat):PthAt w' w.heap.size (.slice A p.length c) p :=
 .inl ⟨A,c,rfl,fun hne=>by
  obtain ⟨b,off,h1,h2,h3⟩:=h hne
  exact ⟨b,off,h1,h2,fun i x hx=>(xJ (w:=w) (a:=⟨b,off+i,none⟩) (hb.block b h2)).trans (h3 i x hx)⟩⟩
def PhRow (w:World) (lo B:Nat) (v:Value) (ps:List (List Int)):Prop:=∃ hs:List Value,hs.length=ps.length∧w.ownsRow B 23 1 v ps.length hs∧∀ (j:Nat) (h:Value) (p:List Int),hs[j]? = some h→ps[j]? = some p→PthAt w lo h p
theorem PhRow.nil (w:World) (lo B:Nat):PhRow w lo B (.slice none 0 0) []:=⟨[],rfl,World.ownsRow_nil _ _ _ _,fun j h p hh=>by simp at hh⟩
theorem PhRow.keep {w w':World} {lo B:Nat} {v:Value} {ps:List (List Int)} (h:PhRow w lo B v ps) (hl:lo≤w.heap.size) (hb:Below w.heap.size w w'):PhRow w' lo B v ps:=by
 obtain ⟨hs,h1,h2,h3⟩:=h
 exact ⟨hs,h1,(Keeps.of_below (P:=fun _=>none) hb).row h2 fun _ _=>.inl rfl,fun j h p hh hp=>(h3 j h p hh hp).keep hl hb⟩
theorem PhRow.slice {w:World} {lo B:Nat} {v:Value} {ps:List (List Int)} (h:PhRow w lo B v ps):∃ A c,v = .slice A ps.length c:=by
 obtain ⟨hs,_,h2,_⟩:=h
 exact Qem h2
theorem PhRow.low {w:World} {lo B B':Nat} {v:Value} {ps:List (List Int)} (h:PhRow w lo B v ps) (hb:B'≤B):PhRow w lo B' v ps:=by
 obtain ⟨hs,h1,h2,h3⟩:=h
 exact ⟨hs,h1,Qdz h2 hb,h3⟩
theorem PhRow.at {w:World} {lo B:Nat} {A:Option Addr} {n c:Nat} {ps:List (List Int)} (h:PhRow w lo B (.slice A n c) ps) (hl:lo≤w.heap.size) {j:Nat} {p:List Int} (hp:ps[j]? = some p):n=ps.length∧∃ (g:Nat) (PA:Option Addr) (pc:Nat),A=some ⟨g,0,none⟩∧B≤g∧g<w.heap.size∧w.cell? ⟨g,j,none⟩=some (.slice PA p.length pc)∧IntsAt w PA p:=by
 obtain ⟨hs,h1,h2,h3⟩:=h
 have hj:=(xP.1 hp).1
 obtain ⟨g,cap,hv,hg,hgl⟩:=World.ownsRow.form h2 (by omega)
 injection hv with hv1 hv2 hv3
 subst hv1
 obtain ⟨h,hh⟩:∃ h,hs[j]? = some h:=⟨_,xF (by rw [h1];exact hj)⟩
 have hcs:=h2.cells (g:=g) rfl j h hh
 rw [Addr.add_lit,Nat.zero_add] at hcs
 obtain ⟨PA,pc,e,hi⟩:=(h3 j h p hh hp).ints hl
 subst e
 exact ⟨hv2,g,PA,pc,rfl,hg,hgl,hcs,hi⟩
theorem PhRow.snoc {w w':World} {lo B g cap:Nat} {v x:Value} {ps:List (List Int)} {hs:List Value} {p:List Int} (h1:hs.length=ps.length) (h2:w.ownsRow B 23 1 v ps.length hs)
  (h3:∀ (j:Nat) (h:Value) (p:List Int),hs[j]? = some h→ps[j]? = some p→PthAt w lo h p) (hx:PthAt w lo x p) (hlB:lo≤B) (hlw:lo≤w.heap.size)
  (ho:w'.ownsRow B 23 1 (.slice (some ⟨g,0,none⟩) (ps.length+1) cap) (ps.length+1) (hs ++ [x])) (hk:Keeps (pre v (ps.length*1)) w w'):PhRow w' lo B (.slice (some ⟨g,0,none⟩) (ps.length+1) cap) (ps ++ [p]):=by
 have hI:∀ {u:Value} {q:List Int},PthAt w lo u q→PthAt w' lo u q:=fun {u q} h=>by
  rcases h with ⟨A,c,e,h⟩ | h
  ·refine .inl ⟨A,c,e,fun hne=>?_⟩
   obtain ⟨b,off,e1,e2,e3⟩:=h hne
   refine ⟨b,off,e1,e2,fun i y hy=>(xJ (w:=w) (a:=⟨b,off+i,none⟩) (hk.block b (by omega) (Qbt fun eb=>?_))).trans (e3 i y hy)⟩
   have:=(World.ownsRow.lt h2 b eb).1
   omega
  ·refine .inr (h.keepP hk fun k hk'=>.inl (Qbt fun eb=>?_))
   obtain ⟨g1,c1,cur1,hv1,_,hh1,_⟩:=h
   rw [hv1] at hk'
   injection hk' with hk'
   have ek:g1=k:=hk'
   subst ek
   rcases h2.2 with ⟨rfl,_⟩|⟨g2,cap2,cur2,rfl,_,hh2,_⟩
   ·cases eb
   ·injection eb with eb
    have e2:g2=g1:=eb
    subst e2
    rw [hh1] at hh2
    injection hh2 with hh2
    injection hh2 with _ h5
    exact absurd h5 (by decide)
 refine ⟨hs ++ [x],by rw [xB,xB,h1];rfl,by rw [xB];exact ho,fun j h q hh hq=>?_⟩
 by_cases hj:j<ps.length
 ·rw [yB (by rw [h1];exact hj)] at hh
  rw [yB hj] at hq
  exact hI (h3 j h q hh hq)
 ·have hjl:=(xP.1 hq).1
  rw [xB,List.length_singleton] at hjl
  obtain rfl:j=ps.length:=by omega
  rw [xX (by omega),h1,Nat.sub_self] at hh
  rw [xX (xA _),Nat.sub_self] at hq
  injection hh with hh
  injection hq with hq
  subst hh hq
  exact hI hx
end Go.Proofs.YtjidpkcjpgdafaaGreat
