/- Part 43 -/
import Derived.Test.YtfjpemdejoejbaaGreatTt42
import Derived.Test.YtfjpemdejoejbaaGreatTt41
set_option maxRecDepth 100000
set_option maxHeartbeats 4000000
namespace Go.Proofs.YtfjpemdejoejbaaGreat
open Go.RowKit Go.Shelf
mutual
theorem Qdy:(t:Tr)→Qe9 t=true→Qbb t=true
 | .mk _ _ ls ks,h=>by
  rw [Qe9] at h;simp only [Bool.and_eq_true,decide_eq_true_eq] at h;rw [Qbb,Qmo ks h.2,xS (by omega),xS (by omega)];rfl
theorem Qmo:(l:List Tr)→Quz l=true→Qc4 l=true
 | [],_=>by rw [Qc4]
 | t :: r,h=>by
  rw [Quz,Bool.and_eq_true] at h;rw [Qc4,Qdy t h.1,Qmo r h.2];rfl
end
theorem Qhl (P:Tr→Prop) (hP:∀ (t k:Tr) (j:Nat),P t→t.kids[j]? = some k→P k) (N:Nat):∀ t:Tr,SizeOf.sizeOf t≤N→Qar t=true→5≤t.kind∧t.kind≤9→P t→P (Qav t):=by
 induction N with
 | zero=>intro t h;have:=Qf7 t;omega
 | succ N ih =>
  intro t hN h hk hp
  rcases Qeu h hk with ⟨h8,k,hkk,h1,h2⟩|⟨h8,_,_⟩
  ·have hj:t.kids[0]? = some k:=by rw [hkk];rfl
   rw [(Qek h8 hkk).1];exact ih k (by have:=Qbn hj;omega) h2 h1 (hP t k 0 hp hj)
  ·rw [(Qel h8).1];exact hp
theorem Qmp (P:Tr→Prop) (hP:∀ (t k:Tr) (j:Nat),P t→t.kids[j]? = some k→P k) {k:Tr} (h:Qnr k) (h3:k.kind=3) (hp:P k):P (Qc0 k):=by
 obtain ⟨a,h1,h2,_,_,_,_,h4,h5⟩:=Qns h h3;rw [h2];exact Qhl P hP _ a (xA _) h4 h5 (hP k a 0 hp (by rw [h1];rfl))
theorem Qpo (k:Tr):(Qgq k).kids=if k.kind=3 then [Qc0 k] else [Qcw 5,Qcw 15]:=rfl
theorem Qx6 {k:Tr} (h:Qnr k):Qal (Qgq k)≤Qal k:=by
 rw [Qa9,Qa9 k,Qpo]
 by_cases h3:k.kind=3
 ·obtain ⟨a,h1,h2,_,c2,_⟩:=Qns h h3;rw [xO h3,h1,Qak,Qak,Qak,Qak,Qa9,h2,c2,Qak,Qa9 a];omega
 ·have h2:k.kind=2:=by have:=h.1;omega
  have h4:=Quh h.2.1 h2;have h5:=Qa4 k.kids;rw [xN h3];have e:Qak [Qcw 5,Qcw 15] = 2:=by kernel_rfl
  omega
theorem Qnw {f:Tr→Tr}:(l:List Tr)→(∀ k∈l,Qal (f k)≤Qal k)→Qak (l.map f)≤Qak l
 | [],_=>by rw [List.map_nil];exact xA _
 | a :: r,h=>by
  rw [List.map_cons,Qak,Qak];have h1:=h a (by simp);have h2:=Qnw r fun k hk=>h k (by simp [hk])
  omega
theorem Za7 {k:Tr} (h:Qnr k):Qar (Qgq k)=true:=by
 have e0:(Qgq k).kind=k.kind:=rfl;have e1:(Qgq k).text=k.text:=rfl;have hn:=(Qe2 h.2.1).2.1;rw [Qdo,e0,e1,Qpo,hn]
 by_cases h3:k.kind=3
 ·obtain ⟨a,h1,h2,c1,c2,_,c4,_⟩:=Qns h h3;rw [xO h3,h3,Qbc,Qbc,h2,c4];have e2:Qfl 3 [Qc0 k].length 0 (Qav a).kind=(decide (5≤(Qav a).kind) && decide ((Qav a).kind≤9)):=rfl;have e3:Qfl 3 [Qav a].length 0 (Qav a).kind=(decide (5≤(Qav a).kind) && decide ((Qav a).kind≤9)):=rfl
  first | rw [e2] | rw [e3]
  rw [xS (show 5≤(Qav a).kind from by omega),xS (show (Qav a).kind≤9 from by omega)];rfl
 ·have h2:k.kind=2:=by have:=h.1;omega
  rw [xN h3,h2];have e2:Qbc 2 [Qcw 5,Qcw 15].length 0 [Qcw 5,Qcw 15] = true:=by kernel_rfl
  rw [e2];rfl
theorem Qsx (n:Nat):(l:List Tr)→(i:Nat)→(∀ k∈l,Qnr k)→Qbc 1 n i (l.map Qgq)=true
 | [],i,_=>by rw [List.map_nil,Qbc]
 | a :: r,i,h=>by
  have ha:=h a (by simp);rw [List.map_cons,Qbc,Za7 ha,Qsx n r (i+1) fun k hk=>h k (by simp [hk])];have e:Qfl 1 n i (Qgq a).kind=(a.kind==2 || a.kind==3):=rfl;rw [e]
  rcases ha.1 with e | e <;> rw [e] <;> rfl
theorem Qkb {ps:List Tr} (hz:∀ t∈ps,Qal t≤1000) (hg:Qb4 ps=true) {m:Nat} {t:Tr} (ht:ps[m]? = some t):∀ k∈t.kids,Qnr k:=fun k hk=>by
 obtain ⟨d,hd,he⟩:=List.getElem_of_mem hk;exact Qss hz hg ht (d:=d) (by rw [xF hd,he])
theorem Qx7 {ps:List Tr} (hz:∀ t∈ps,Qal t≤1000) (hg:Qb4 ps=true) {m:Nat} {t:Tr} (ht:ps[m]? = some t):Qal (Qn7 t)≤Qal t:=by
 rw [Qa9,Qa9 t,Qha];have:=Qnw (f:=Qgq) t.kids fun k hk=>Qx6 (Qkb hz hg ht k hk)
 omega
theorem Qpp {ps:List Tr} (hz:∀ t∈ps,Qal t≤1000) (hg:Qb4 ps=true):(∀ t∈Qgr ps,Qal t≤1000)∧Qak (Qgr ps)≤Qak ps:=by
 have h1:∀ t∈ps,Qal (Qn7 t)≤Qal t:=fun t ht=>by
  obtain ⟨m,hm,he⟩:=List.getElem_of_mem ht;exact Qx7 hz hg (m:=m) (by rw [xF hm,he])
 refine ⟨fun t ht=>?_,Qnw ps h1⟩;obtain ⟨u,hu,rfl⟩:=List.mem_map.1 ht;exact xQ (h1 u hu) (hz u hu)
theorem Za8 {ps:List Tr} (hz:∀ t∈ps,Qal t≤1000) (hg:Qb4 ps=true):Qb4 (Qgr ps)=true:=by
 unfold Qb4;rw [List.all_eq_true];intro t ht;have hzt:=(Qpp hz hg).1 t ht;obtain ⟨u,hu,rfl⟩:=List.mem_map.1 ht;obtain ⟨m,hm,he⟩:=List.getElem_of_mem hu;have hum:ps[m]? = some u:=by rw [xF hm,he]
 obtain ⟨q1,q2⟩:=Qfc hg hum;rw [←Qbl _ _ (xA _) hzt];rw [←Qbl _ u (xA _) (hz u hu)] at q2;have e0:(Qn7 u).kind=u.kind:=rfl;have e1:(Qn7 u).text=u.text:=rfl;have hn:=(Qe2 q2).2.1;rw [Qdo,e0,e1,Qha,hn,q1,Qsx _ _ _ (Qkb hz hg hum)]
 have e2:Qat 1 (u.kids.map Qgq).length=3:=by
  have:Qat 1 (u.kids.map Qgq).length=if (0:Int)≤((u.kids.map Qgq).length:Int) then 3 else -1:=rfl
  rw [this,xO (by omega)]
 rw [e2];rfl
theorem Qsy:(l:List Tr)→(∀ t∈l,Qe9 t=true)→Quz l=true
 | [],_=>by rw [Quz]
 | t :: r,h=>by rw [Quz,h t (by simp),Qsy r fun u hu=>h u (by simp [hu])];rfl
theorem Qjm {k:Int} {x:ByteArray} {ls:List ByteArray} {ks:List Tr} (h1:ls.length≤8796093022208) (h2:ks.length≤1900000000000) (h3:∀ t∈ks,Qe9 t=true):Qe9 (.mk k x ls ks)=true:=by
 rw [Qe9,xS h1,xS h2,Qsy ks h3];rfl
theorem Qx8 (t k:Tr) (j:Nat) (h:Qe9 t=true) (hk:t.kids[j]? = some k):Qe9 k=true:=(Qbo h).2.2 j k hk
theorem Zdu {ps:List Tr} (hz:∀ t∈ps,Qal t≤1000) (hg:Qb4 ps=true) (hf:Qe9 (Qap ps)=true):Qe9 (Qap (Qgr ps))=true:=by
 refine Qjm (by simp) (by unfold Qgr;rw [List.length_map];exact (Qbo hf).2.1) fun t' ht'=>?_
 obtain ⟨t,ht,rfl⟩:=List.mem_map.1 ht';obtain ⟨m,hm,he⟩:=List.getElem_of_mem ht;have htm:ps[m]? = some t:=by rw [xF hm,he]
 have hft:=(Qbo hf).2.2 m t htm;refine Qjm (by simp) (by rw [List.length_map];exact (Qbo hft).2.1) fun k' hk'=>?_
 obtain ⟨k,hk,rfl⟩:=List.mem_map.1 hk';obtain ⟨d,hd,he'⟩:=List.getElem_of_mem hk;have hkd:t.kids[d]? = some k:=by rw [xF hd,he']
 have hok:=Qkb hz hg htm k hk;unfold Qgq
 by_cases h3:k.kind=3
 ·rw [xO h3];refine Qjm (by simp) (by simp) fun a ha=>?_
  rw [List.mem_singleton] at ha;rw [ha];exact Qmp (fun t=>Qe9 t=true) Qx8 hok h3 (Qx8 _ _ _ hft hkd)
 ·rw [xN h3];refine Qjm (by simp) (by simp) fun a ha=>?_
  simp at ha
  rcases ha with rfl | rfl <;> kernel_rfl
theorem Qmq:(l:List Tr)→(∀ t∈l,Qaz t=true)→Qht l=true
 | [],_=>by rw [Qht]
 | t :: r,h=>by rw [Qht,h t (by simp),Qmq r fun u hu=>h u (by simp [hu])];rfl
theorem Qi1 {k:Int} {x:ByteArray} {ks:List Tr} (h1:x.size<maxLen) (h3:∀ t∈ks,Qaz t=true):Qaz (.mk k x [] ks)=true:=by
 rw [Qaz,xS h1,Qmq ks h3];rfl
theorem Qgd (t k:Tr) (j:Nat) (h:Qaz t=true) (hk:t.kids[j]? = some k):Qaz k=true:=(Qa1 h).2.2 j k hk
theorem Qx9 {ps:List Tr} (hz:∀ t∈ps,Qal t≤1000) (hg:Qb4 ps=true) (hf:Qaz (Qap ps)=true):Qaz (Qap (Qgr ps))=true:=by
 refine Qi1 (by decide) fun t' ht'=>?_
 obtain ⟨t,ht,rfl⟩:=List.mem_map.1 ht';obtain ⟨m,hm,he⟩:=List.getElem_of_mem ht;have htm:ps[m]? = some t:=by rw [xF hm,he]
 have hft:=Qgd _ t m hf htm;refine Qi1 (Qa1 hft).1 fun k' hk'=>?_
 obtain ⟨k,hk,rfl⟩:=List.mem_map.1 hk';obtain ⟨d,hd,he'⟩:=List.getElem_of_mem hk;have hkd:t.kids[d]? = some k:=by rw [xF hd,he']
 have hok:=Qkb hz hg htm k hk;have hfk:=Qgd _ _ _ hft hkd;unfold Qgq;refine Qi1 (Qa1 hfk).1 fun a ha=>?_
 by_cases h3:k.kind=3
 ·rw [xO h3,List.mem_singleton] at ha;rw [ha];exact Qmp (fun t=>Qaz t=true) Qgd hok h3 hfk
 ·rw [xN h3] at ha;simp at ha
  rcases ha with rfl | rfl <;> kernel_rfl
structure OutOk (ps:List Tr) (w':World) (A:Option Addr) (c:Nat):Prop where
 at':TrAt (fun b=>b<w'.heap.size) w' (Qap (Qgr ps)) ⟨0,⟨#[]⟩,none,0,0,A,(Qgr ps).length,c⟩
 fit:Qe9 (Qap (Qgr ps))=true
 small:Qbb (Qap (Qgr ps))=true
 words:Qaz (Qap (Qgr ps))=true
 size:Qak (Qgr ps)≤90000
 prog:Qb4 (Qgr ps)=true
theorem Qmr (S:Nat→Prop) (A:Option Addr) (c:Nat) (ps:List Tr) (w:World) (hp:TrAt S w (Qap ps) ⟨0,⟨#[]⟩,none,0,0,A,ps.length,c⟩) (hg:Qb4 ps=true) (hz:∀ t∈ps,Qal t≤1000) (hl:Qak ps≤90000) (hf:Qe9 (Qap ps)=true) (hw:Qaz (Qap ps)=true) :
  Calls Tryz.prog 36 #[.slice A ps.length c] w fun e w'=>∃ A' c',e = .returned (.slice A' (Qgr ps).length c')∧OutOk ps w' A' c'∧Below w.heap.size w w':=by
 refine (Qrj S A c ps w hp hg hz (xQ (Qa4 ps) hl)).mono ?_;rintro e w' ⟨A',c',rfl,ho,hb⟩;have hlen:(Qgr ps).length=ps.length:=by unfold Qgr;rw [List.length_map]
 have hfo:=Zdu hz hg hf;rw [←hlen] at ho ⊢;exact ⟨A',c',rfl,⟨ho.node 0 ⟨#[]⟩ fun b _ hb'=>hb',hfo,Qdy _ hfo,Qx9 hz hg hw,xQ (Qpp hz hg).2 hl,Za8 hz hg⟩,hb⟩
theorem Qya {w w':World} {b n:Nat} {f:Pr→Option Pr} (h:AMap w b n f) (hg:w.grownBy w' (some b)):Keeps (fun k=>if k=b then some 0 else none) w w':=by
 refine ⟨hg.os,hg.tape,hg.output,hg.size,fun k hk hn=>hg.block k hk (fun e=>?_),fun k n' cur t hn hc=>?_⟩
 ·injection e with e;subst e;rw [xO rfl] at hn;cases hn
 ·by_cases e:k=b
  ·subst e;obtain ⟨D,⟨es,ck,q1,_⟩,_⟩:=h;rw [q1] at hc;injection hc with hc;cases hc
  ·rw [xN e] at hn;cases hn
theorem TgsAt.map {w w':World} {B b n:Nat} {f:Pr→Option Pr} {v:Value} {zs:List Tgm} (h:TgsAt w B v zs) (hm:AMap w b n f) (hb:b<B) (hg:w.grownBy w' (some b)):TgsAt w' B v zs:=by
 obtain ⟨ws,h1,h2⟩:=h;have hk:=Qya hm hg
 refine ⟨ws,hk.row h1 fun g hg=>.inl (xN fun e=>?_),h2.step fun v p h=>hk.row h fun g hg=>.inl (xN fun e=>?_)⟩
 ·have:=(World.ownsRow.lt h1 g hg).1
  omega
 ·have:=(World.ownsRow.lt h g hg).1
  omega
def RfL (zs:List Tgm) (tv:Value) (w:World) (i:Value) (wr:World):Prop:=∃ j:Nat,i = .int .i64 (j:Int)∧j≤zs.length∧TgsAt wr (w.heap.size+1) tv zs∧AMap wr w.heap.size j (Qjl (zs.take j))∧Below w.heap.size w wr
theorem Qyb {w w':World} {b:Nat} (h:w.grownBy w' (some b)) {B:Nat} (hB:B≤b) (hs:B≤w.heap.size):Below B w w':=⟨h.os,h.tape,h.output,h.size,fun k hk=>h.block k (by omega) (fun e=>by injection e with e;omega)⟩
theorem Qms {w:World} {B:Nat} {v:Value} {x:Int} {p:List Int} (h:IRow w B v (x :: p)):∃ g c,v = .slice (some ⟨g,0,none⟩) (p.length+1) c∧g<w.heap.size∧w.cell? ⟨g,0,none⟩=some (.int .i64 x):=by
 obtain ⟨g,cap,e,hg,hlt⟩:=World.ownsRow.form h (by simp);subst e;have hc:=World.ownsRow.cells h (g:=g) rfl 0 _ rfl;rw [Addr.add_lit] at hc;exact ⟨g,cap,rfl,hlt,hc⟩
theorem Qhv (S:Nat→Prop) (A:Option Addr) (c:Nat) (ps:List Tr) (w:World) (hp:TrAt S w (Qap ps) ⟨0,⟨#[]⟩,none,0,0,A,ps.length,c⟩) (hf:Qe9 (Qap ps)=true) (hs:Qbb (Qap ps)=true) (hw:Qaz (Qap ps)=true) (hz:Qak ps≤90000)
  (hu:∀ z∈Qho ps,W64 z.1∧∃ x p,z.2.1=x :: p∧W64 x) :
  Calls Tryz.prog 35 #[.slice A ps.length c] w fun e w'=>∃ b,e = .returned (.map (some b))∧AMap w' b 90001 (Qjl (Qho ps))∧w.heap.size≤b∧Below w.heap.size w w':=by
 have HBM:=hQ (Qbq w (.map #[] 0));have HMM:=hQ (AMap.made w);have HC:=hQ (Qre S A c ps (w.alloc (.map #[] 0)) (hp.keep HBM.out) hf hs hw hz);have HZL:=hQ (show (Qho ps).length≤90000 from xQ (Qxl ps) hz);obtain ⟨zs,hzs⟩:∃ zs,zs=Qho ps:=⟨_,rfl⟩;rw [←hzs] at HC HZL hu ⊢;have HU:=hQ hu;have hmm:=@run_makeMap Tryz.prog;clear hp hf hs hw hz hzs hu
 go_enter Tryz.func35,Tryz.ntmps35
 go_wp2_with (go_at_call 63;refine HC.out.mono ?_;rintro e w1 ⟨v,rfl,ht,hb⟩;obtain ⟨TA,tc,rfl⟩:=ht.slice;have HT1:=hQ ht;have HB1:=hQ hb;clear ht hb)
 go_loopw [10] (fun i wr=>RfL zs (.slice TA zs.length tc) w i wr) (fun i _=>zs.length-(intOf i).toNat)
 case atStart =>
  refine ⟨0,rfl,xZ _,?_,(HMM.out.below HB1.out).mono (xA _),HBM.out.trans (HB1.out.mono HBM.out.size)⟩;have h:=HT1.out;rw [xI] at h;exact h
 case round =>
  obtain ⟨j,rfl,hj,ht,hm,hb⟩:=hrel;have HT:=hQ ht;have HM:=hQ hm;have HB:=hQ hb;clear ht hm hb
  by_cases hlt:j<zs.length
  ·obtain ⟨z,hz⟩:∃ z,zs[j]? = some z:=⟨_,xF hlt⟩;obtain ⟨_,g,pv,hTA,_,gl,c0,c1,c2,c3,c4,hrow⟩:=HT.out.at hz;subst hTA;obtain ⟨u1,x,pp,u2,u3⟩:=HU.out z (yA hz);obtain ⟨m,zp,a,b,f⟩:=z;simp only at c0 c2 c3 c4 hrow u1 u2;subst u2;obtain ⟨pg,pc,hpv,pgl,p0⟩:=Qms hrow;subst hpv;have HRW:=hQ hrow;have hk0:(0:Int)≤(j:Int):=by omega
   have hk1:(j:Int)<(zs.length:Int):=by omega
   have hk2:(j:Int)+1≤90001:=by have:=HZL.out;omega
   have HZ:=hQ hz;have HBA:=hQ (Qbq wr (tgO m (.slice (some ⟨pg,0,none⟩) (pp.length+1) pc) a b f));have HX:=xH wr (tgO m (.slice (some ⟨pg,0,none⟩) (pp.length+1) pc) a b f);have W1:=hQ u1;have W2:=hQ u3;have hpl:(0:Int)<(pp.length:Int)+1:=by omega
   have hpn:0<pp.length+1:=by omega
   clear hrow hz u1 u3
   by_cases hf:f=true
   ·subst hf;have HS:=hQ (show Qjl (zs.take (j+1))=Qjl (zs.take j) from by rw [Qmk HZ.out];rfl);clear HX hpl hpn
    go_wp2
    go_roundw
    case measure=>first | (simp [intOf];done) | (simp [intOf];omega)
    case rel=>exact ⟨j+1,by go_num,by omega,HT.out.keep HBA.out,by rw [HS.out];exact (HM.out.below HBA.out).mono (Nat.le_succ _),HB.out.trans (HBA.out.mono HB.out.size)⟩
   ·have hf':f=false:=by simpa using hf
    subst hf';have HS:=hQ (show Qjl (zs.take (j+1))=Qsk (Qjl (zs.take j)) (m,x) (a,b) from by rw [Qmk HZ.out];rfl);have x0:(wr.alloc (.cells #[.int .i64 m,.slice (some ⟨pg,0,none⟩) (pp.length+1) pc,.int .i64 a,.int .i64 b,.bool false] 103)).cell? ⟨wr.heap.size,0,none⟩=some (.int .i64 m):=Qaa HX 0 _ rfl;have x1:(wr.alloc (.cells #[.int .i64 m,.slice (some ⟨pg,0,none⟩) (pp.length+1) pc,.int .i64 a,.int .i64 b,.bool false] 103)).cell? ⟨wr.heap.size,1,none⟩=some (.slice (some ⟨pg,0,none⟩) (pp.length+1) pc):=Qaa HX 1 _ rfl;have x2:(wr.alloc (.cells #[.int .i64 m,.slice (some ⟨pg,0,none⟩) (pp.length+1) pc,.int .i64 a,.int .i64 b,.bool false] 103)).cell? ⟨wr.heap.size,2,none⟩=some (.int .i64 a):=Qaa HX 2 _ rfl;have x3:(wr.alloc (.cells #[.int .i64 m,.slice (some ⟨pg,0,none⟩) (pp.length+1) pc,.int .i64 a,.int .i64 b,.bool false] 103)).cell? ⟨wr.heap.size,3,none⟩=some (.int .i64 b):=Qaa HX 3 _ rfl;have x4:(wr.alloc (.cells #[.int .i64 m,.slice (some ⟨pg,0,none⟩) (pp.length+1) pc,.int .i64 a,.int .i64 b,.bool false] 103)).cell? ⟨wr.heap.size,4,none⟩=some (.bool false):=Qaa HX 4 _ rfl;clear HX;have HROW:=HRW.out.keep HBA.out;obtain ⟨pg2,pc2,hpv2,pgl2,q0⟩:=Qms HROW;have e2:pg2=pg:=by injection hpv2 with e _ _;injection e with e;injection e with e _ _;exact e.symm
    subst e2;have xl:wr.heap.size<(wr.alloc (.cells #[.int .i64 m,.slice (some ⟨pg2,0,none⟩) (pp.length+1) pc,.int .i64 a,.int .i64 b,.bool false] 103)).heap.size:=by rw [xI];omega
    have HBX:=hQ (show Below wr.heap.size wr (wr.alloc (.cells #[.int .i64 m,.slice (some ⟨pg2,0,none⟩) (pp.length+1) pc,.int .i64 a,.int .i64 b,.bool false] 103)) from HBA.out);clear HROW hpv2 p0 HBA;go_wp2_with fail
    generalize (wr.alloc (.cells #[.int .i64 m,.slice (some ⟨pg2,0,none⟩) (pp.length+1) pc,.int .i64 a,.int .i64 b,.bool false] 103))=wx at x0 x1 x2 x3 x4 q0 pgl2 xl HBX ⊢
    go_still_tail 15,(by kernel_rfl)
    change wpList _ _ _ _ _ wx.drew
    have HBD:=hQ (show Below wr.heap.size wr wx.drew from HBX.out.drew);clear x0 x1 x2 x3 x4 c0 c1 c2 c3 c4 q0
    generalize wx.drew=wd at HBD ⊢
    have HMD:=hQ (HM.out.below HBD.out);have HN:=hQ (show j<maxLen from by have:=HZL.out;unfold maxLen;omega);refine Qlb rfl _ _ _ rfl w.heap.size j _ rfl HMD.out HN.out m x a b rfl rfl W1.out W2.out ?_;intro w6 hm6 hg6;have HM6:=hQ hm6;have HG6:=hQ hg6;clear hm6 hg6
    go_wp2
    go_roundw
    case measure=>first | (simp [intOf];done) | (simp [intOf];omega)
    case rel=>exact ⟨j+1,by go_num,by omega,(HT.out.keep HBD.out).map HMD.out (xW _) HG6.out,by rw [HS.out];exact HM6.out,HB.out.trans ((HBD.out.mono HB.out.size).trans (Qyb HG6.out (xA _) (xQ HB.out.size HBD.out.size)))⟩
  ·obtain rfl:j=zs.length:=by omega
   have HS:=hQ (show Qjl (zs.take zs.length)=Qjl zs from by rw [List.take_length])
   go_wp2
   go_ret
   exact ⟨_,rfl,by rw [←HS.out];exact HM.out.mono (by have:=HZL.out;omega),xA _,HB.out⟩
end Go.Proofs.YtfjpemdejoejbaaGreat
