/- Part 38 -/
import Derived.Test.YtclkilljmdkfaaaGreatTf37
import Derived.Test.YtclkilljmdkfaaaGreatTf36
set_option maxRecDepth 100000
set_option maxHeartbeats 4000000
namespace Go.Proofs.YtclkilljmdkfaaaGreat
open Go.RowKit Go.Shelf
mutual
theorem Qfz:(t:Tr)→Qhs t=true→Qbg t=true
 | .mk _ _ ls ks,h=>by
  rw [Qhs] at h
  simp only [Bool.and_eq_true,decide_eq_true_eq] at h
  rw [Qbg,Qoy ks h.2,xS (by omega),xS (by omega)]
  rfl
theorem Qoy:(l:List Tr)→Qy0 l=true→Qdf l=true
 | [],_=>by rw [Qdf]
 | t :: r,h=>by
  rw [Qy0,Bool.and_eq_true] at h
  rw [Qdf,Qfz t h.1,Qoy r h.2]
  rfl
end
theorem Qoz (P:Tr→Prop) (hP:∀ (t k:Tr) (j:Nat),P t→t.kids[j]? = some k→P k) (N:Nat):∀ t:Tr,SizeOf.sizeOf t≤N→Qaz t=true→5≤t.kind∧t.kind≤9→P t→P (Qb2 t):=by
 induction N with
 | zero=>intro t h;have:=Qgu t;omega
 | succ N ih =>
  intro t hN h hk hp
  rcases Qi0 h hk with ⟨h8,k,hkk,h1,h2⟩|⟨h8,_,_⟩
  ·have hj:t.kids[0]? = some k:=by rw [hkk];rfl
   rw [(Qin h8 hkk).1]
   exact ih k (by have:=Qas hj;omega) h2 h1 (hP t k 0 hp hj)
  ·rw [(Qio h8).1]
   exact hp
theorem Qo0 (P:Tr→Prop) (hP:∀ (t k:Tr) (j:Nat),P t→t.kids[j]? = some k→P k) {k:Tr} (h:Qqf k) (h3:k.kind=3) (hp:P k):P (Qei k):=by
 obtain ⟨a,h1,h2,_,_,_,_,h4,h5⟩:=Qqg h h3
 rw [h2]
 exact Qoz P hP _ a (xA _) h4 h5 (hP k a 0 hp (by rw [h1];rfl))
theorem Qsd (k:Tr):(Qh4 k).kids=if k.kind=3 then [Qei k] else [Qbu 5,Qbu 15]:=rfl
theorem Zcz {k:Tr} (h:Qqf k):Qah (Qh4 k)≤Qah k:=by
 rw [Qa3,Qa3 k,Qsd]
 by_cases h3:k.kind=3
 ·obtain ⟨a,h1,h2,_,c2,_⟩:=Qqg h h3
  rw [xO h3,h1,Qam,Qam,Qam,Qam,Qa3,h2,c2,Qam,Qa3 a]
  omega
 ·have h2:k.kind=2:=by have:=h.1;omega
  have h4:=Qxz h.2.1 h2
  have h5:=Qa0 k.kids
  rw [xN h3]
  have e:Qam [Qbu 5,Qbu 15] = 2:=by kernel_rfl
  omega
theorem Qqi {f:Tr→Tr}:(l:List Tr)→(∀ k∈l,Qah (f k)≤Qah k)→Qam (l.map f)≤Qam l
 | [],_=>by rw [List.map_nil];exact xA _
 | a :: r,h=>by
  rw [List.map_cons,Qam,Qam]
  have h1:=h a (by simp)
  have h2:=Qqi r fun k hk=>h k (by simp [hk])
  omega
theorem Zgl {k:Tr} (h:Qqf k):Qaz (Qh4 k)=true:=by
 have e0:(Qh4 k).kind=k.kind:=rfl
 have e1:(Qh4 k).text=k.text:=rfl
 have hn:=(Qgp h.2.1).2.1
 rw [Qel,e0,e1,Qsd,hn]
 by_cases h3:k.kind=3
 ·obtain ⟨a,h1,h2,c1,c2,_,c4,_⟩:=Qqg h h3
  rw [xO h3,h3,Qbi,Qbi,h2,c4]
  have e2:Qgq 3 [Qei k].length 0 (Qb2 a).kind=(decide (5≤(Qb2 a).kind) && decide ((Qb2 a).kind≤9)):=rfl
  have e3:Qgq 3 [Qb2 a].length 0 (Qb2 a).kind=(decide (5≤(Qb2 a).kind) && decide ((Qb2 a).kind≤9)):=rfl
  first | rw [e2] | rw [e3]
  rw [xS (show 5≤(Qb2 a).kind from by omega),xS (show (Qb2 a).kind≤9 from by omega)]
  rfl
 ·have h2:k.kind=2:=by have:=h.1;omega
  rw [xN h3,h2]
  have e2:Qbi 2 [Qbu 5,Qbu 15].length 0 [Qbu 5,Qbu 15] = true:=by kernel_rfl
  rw [e2]
  rfl
theorem Qvy (n:Nat):(l:List Tr)→(i:Nat)→(∀ k∈l,Qqf k)→Qbi 1 n i (l.map Qh4)=true
 | [],i,_=>by rw [List.map_nil,Qbi]
 | a :: r,i,h=>by
  have ha:=h a (by simp)
  rw [List.map_cons,Qbi,Zgl ha,Qvy n r (i+1) fun k hk=>h k (by simp [hk])]
  have e:Qgq 1 n i (Qh4 a).kind=(a.kind==2 || a.kind==3):=rfl
  rw [e]
  rcases ha.1 with e | e <;> rw [e] <;> rfl
theorem Qmd {ps:List Tr} (hz:∀ t∈ps,Qah t≤1000) (hg:Qc1 ps=true) {m:Nat} {t:Tr} (ht:ps[m]? = some t):∀ k∈t.kids,Qqf k:=fun k hk=>by
 obtain ⟨d,hd,he⟩:=List.getElem_of_mem hk
 exact Qvr hz hg ht (d:=d) (by rw [xF hd,he])
theorem Zc0 {ps:List Tr} (hz:∀ t∈ps,Qah t≤1000) (hg:Qc1 ps=true) {m:Nat} {t:Tr} (ht:ps[m]? = some t):Qah (Qqp t)≤Qah t:=by
 rw [Qa3,Qa3 t,Qip]
 have:=Qqi (f:=Qh4) t.kids fun k hk=>Zcz (Qmd hz hg ht k hk)
 omega
theorem Qse {ps:List Tr} (hz:∀ t∈ps,Qah t≤1000) (hg:Qc1 ps=true):(∀ t∈Qh5 ps,Qah t≤1000)∧Qam (Qh5 ps)≤Qam ps:=by
 have h1:∀ t∈ps,Qah (Qqp t)≤Qah t:=fun t ht=>by
  obtain ⟨m,hm,he⟩:=List.getElem_of_mem ht
  exact Zc0 hz hg (m:=m) (by rw [xF hm,he])
 refine ⟨fun t ht=>?_,Qqi ps h1⟩
 obtain ⟨u,hu,rfl⟩:=List.mem_map.1 ht
 exact xQ (h1 u hu) (hz u hu)
theorem Zgm {ps:List Tr} (hz:∀ t∈ps,Qah t≤1000) (hg:Qc1 ps=true):Qc1 (Qh5 ps)=true:=by
 unfold Qc1
 rw [List.all_eq_true]
 intro t ht
 have hzt:=(Qse hz hg).1 t ht
 obtain ⟨u,hu,rfl⟩:=List.mem_map.1 ht
 obtain ⟨m,hm,he⟩:=List.getElem_of_mem hu
 have hum:ps[m]? = some u:=by rw [xF hm,he]
 obtain ⟨q1,q2⟩:=Qgf hg hum
 rw [←Qcw _ _ (xA _) hzt]
 rw [←Qcw _ u (xA _) (hz u hu)] at q2
 have e0:(Qqp u).kind=u.kind:=rfl
 have e1:(Qqp u).text=u.text:=rfl
 have hn:=(Qgp q2).2.1
 rw [Qel,e0,e1,Qip,hn,q1,Qvy _ _ _ (Qmd hz hg hum)]
 have e2:Qar 1 (u.kids.map Qh4).length=3:=by
  have:Qar 1 (u.kids.map Qh4).length=if (0:Int)≤((u.kids.map Qh4).length:Int) then 3 else -1:=rfl
  rw [this,xO (by omega)]
 rw [e2]
 rfl
theorem Qvz:(l:List Tr)→(∀ t∈l,Qhs t=true)→Qy0 l=true
 | [],_=>by rw [Qy0]
 | t :: r,h=>by rw [Qy0,h t (by simp),Qvz r fun u hu=>h u (by simp [hu])];rfl
theorem Qlf {k:Int} {x:ByteArray} {ls:List ByteArray} {ks:List Tr} (h1:ls.length≤8796093022208) (h2:ks.length≤1900000000000) (h3:∀ t∈ks,Qhs t=true):Qhs (.mk k x ls ks)=true:=by
 rw [Qhs,xS h1,xS h2,Qvz ks h3]
 rfl
theorem Zc1 (t k:Tr) (j:Nat) (h:Qhs t=true) (hk:t.kids[j]? = some k):Qhs k=true:=(Qds h).2.2 j k hk
theorem Zjr {ps:List Tr} (hz:∀ t∈ps,Qah t≤1000) (hg:Qc1 ps=true) (hf:Qhs (Qbp ps)=true):Qhs (Qbp (Qh5 ps))=true:=by
 refine Qlf (by simp) (by unfold Qh5;rw [List.length_map];exact (Qds hf).2.1) fun t' ht'=>?_
 obtain ⟨t,ht,rfl⟩:=List.mem_map.1 ht'
 obtain ⟨m,hm,he⟩:=List.getElem_of_mem ht
 have htm:ps[m]? = some t:=by rw [xF hm,he]
 have hft:=(Qds hf).2.2 m t htm
 refine Qlf (by simp) (by rw [List.length_map];exact (Qds hft).2.1) fun k' hk'=>?_
 obtain ⟨k,hk,rfl⟩:=List.mem_map.1 hk'
 obtain ⟨d,hd,he'⟩:=List.getElem_of_mem hk
 have hkd:t.kids[d]? = some k:=by rw [xF hd,he']
 have hok:=Qmd hz hg htm k hk
 unfold Qh4
 by_cases h3:k.kind=3
 ·rw [xO h3]
  refine Qlf (by simp) (by simp) fun a ha=>?_
  rw [List.mem_singleton] at ha
  rw [ha]
  exact Qo0 (fun t=>Qhs t=true) Zc1 hok h3 (Zc1 _ _ _ hft hkd)
 ·rw [xN h3]
  refine Qlf (by simp) (by simp) fun a ha=>?_
  simp at ha
  rcases ha with rfl | rfl <;> kernel_rfl
theorem Qo1:(l:List Tr)→(∀ t∈l,Qbh t=true)→Qjf l=true
 | [],_=>by rw [Qjf]
 | t :: r,h=>by rw [Qjf,h t (by simp),Qo1 r fun u hu=>h u (by simp [hu])];rfl
theorem Qhp {k:Int} {x:ByteArray} {ks:List Tr} (h1:x.size<maxLen) (h3:∀ t∈ks,Qbh t=true):Qbh (.mk k x [] ks)=true:=by
 rw [Qbh,xS h1,Qo1 ks h3]
 rfl
theorem Qkt (t k:Tr) (j:Nat) (h:Qbh t=true) (hk:t.kids[j]? = some k):Qbh k=true:=(Qb3 h).2.2 j k hk
theorem Zc2 {ps:List Tr} (hz:∀ t∈ps,Qah t≤1000) (hg:Qc1 ps=true) (hf:Qbh (Qbp ps)=true):Qbh (Qbp (Qh5 ps))=true:=by
 refine Qhp (by decide) fun t' ht'=>?_
 obtain ⟨t,ht,rfl⟩:=List.mem_map.1 ht'
 obtain ⟨m,hm,he⟩:=List.getElem_of_mem ht
 have htm:ps[m]? = some t:=by rw [xF hm,he]
 have hft:=Qkt _ t m hf htm
 refine Qhp (Qb3 hft).1 fun k' hk'=>?_
 obtain ⟨k,hk,rfl⟩:=List.mem_map.1 hk'
 obtain ⟨d,hd,he'⟩:=List.getElem_of_mem hk
 have hkd:t.kids[d]? = some k:=by rw [xF hd,he']
 have hok:=Qmd hz hg htm k hk
 have hfk:=Qkt _ _ _ hft hkd
 unfold Qh4
 refine Qhp (Qb3 hfk).1 fun a ha=>?_
 by_cases h3:k.kind=3
 ·rw [xO h3,List.mem_singleton] at ha
  rw [ha]
  exact Qo0 (fun t=>Qbh t=true) Qkt hok h3 hfk
 ·rw [xN h3] at ha
  simp at ha
  rcases ha with rfl | rfl <;> kernel_rfl
structure OutOk (ps:List Tr) (w':World) (A:Option Addr) (c:Nat):Prop where
 at':TrAt (fun b=>b<w'.heap.size) w' (Qbp (Qh5 ps)) ⟨0,⟨#[]⟩,none,0,0,A,(Qh5 ps).length,c⟩
 fit:Qhs (Qbp (Qh5 ps))=true
 small:Qbg (Qbp (Qh5 ps))=true
 words:Qbh (Qbp (Qh5 ps))=true
 size:Qam (Qh5 ps)≤90000
 prog:Qc1 (Qh5 ps)=true
theorem Qo2 (S:Nat→Prop) (A:Option Addr) (c:Nat) (ps:List Tr) (w:World) (hp:TrAt S w (Qbp ps) ⟨0,⟨#[]⟩,none,0,0,A,ps.length,c⟩) (hg:Qc1 ps=true) (hz:∀ t∈ps,Qah t≤1000) (hl:Qam ps≤90000) (hf:Qhs (Qbp ps)=true) (hw:Qbh (Qbp ps)=true) :
  Calls Tryz.prog 54 #[.slice A ps.length c] w fun e w'=>∃ A' c',e = .returned (.slice A' (Qh5 ps).length c')∧OutOk ps w' A' c'∧Below w.heap.size w w':=by
 refine (Qug S A c ps w hp hg hz (xQ (Qa0 ps) hl)).mono ?_
 rintro e w' ⟨A',c',rfl,ho,hb⟩
 have hlen:(Qh5 ps).length=ps.length:=by unfold Qh5;rw [List.length_map]
 have hfo:=Zjr hz hg hf
 rw [←hlen] at ho ⊢
 exact ⟨A',c',rfl,⟨ho.node 0 ⟨#[]⟩ fun b _ hb'=>hb',hfo,Qfz _ hfo,Zc2 hz hg hw,xQ (Qse hz hg).2 hl,Zgm hz hg⟩,hb⟩
theorem Zc3 {w w':World} {b n:Nat} {f:Pr→Option Pr} (h:AMap w b n f) (hg:w.grownBy w' (some b)):Keeps (fun k=>if k=b then some 0 else none) w w':=by
 refine ⟨hg.os,hg.tape,hg.output,hg.size,fun k hk hn=>hg.block k hk (fun e=>?_),fun k n' cur t hn hc=>?_⟩
 ·injection e with e
  subst e
  rw [xO rfl] at hn
  cases hn
 ·by_cases e:k=b
  ·subst e
   obtain ⟨D,⟨es,ck,q1,_⟩,_⟩:=h
   rw [q1] at hc
   injection hc with hc
   cases hc
  ·rw [xN e] at hn
   cases hn
theorem TgsAt.map {w w':World} {B b n:Nat} {f:Pr→Option Pr} {v:Value} {zs:List Tgm} (h:TgsAt w B v zs) (hm:AMap w b n f) (hb:b<B) (hg:w.grownBy w' (some b)):TgsAt w' B v zs:=by
 obtain ⟨ws,h1,h2⟩:=h
 have hk:=Zc3 hm hg
 refine ⟨ws,hk.row h1 fun g hg=>.inl (xN fun e=>?_),h2.step fun v p h=>hk.row h fun g hg=>.inl (xN fun e=>?_)⟩
 ·have:=(World.ownsRow.lt h1 g hg).1
  omega
 ·have:=(World.ownsRow.lt h g hg).1
  omega
def RfL (zs:List Tgm) (tv:Value) (w:World) (i:Value) (wr:World):Prop:=∃ j:Nat,i = .int .i64 (j:Int)∧j≤zs.length∧TgsAt wr (w.heap.size+1) tv zs∧AMap wr w.heap.size j (Qle (zs.take j))∧Below w.heap.size w wr
theorem Zc4 {w w':World} {b:Nat} (h:w.grownBy w' (some b)) {B:Nat} (hB:B≤b) (hs:B≤w.heap.size):Below B w w':=⟨h.os,h.tape,h.output,h.size,fun k hk=>h.block k (by omega) (fun e=>by injection e with e;omega)⟩
theorem Qo3 {w:World} {B:Nat} {v:Value} {x:Int} {p:List Int} (h:IRow w B v (x :: p)):∃ g c,v = .slice (some ⟨g,0,none⟩) (p.length+1) c∧g<w.heap.size∧w.cell? ⟨g,0,none⟩=some (.int .i64 x):=by
 obtain ⟨g,cap,e,hg,hlt⟩:=World.ownsRow.form h (by simp)
 subst e
 have hc:=World.ownsRow.cells h (g:=g) rfl 0 _ rfl
 rw [Addr.add_lit] at hc
 exact ⟨g,cap,rfl,hlt,hc⟩
theorem Qjk (S:Nat→Prop) (A:Option Addr) (c:Nat) (ps:List Tr) (w:World) (hp:TrAt S w (Qbp ps) ⟨0,⟨#[]⟩,none,0,0,A,ps.length,c⟩) (hf:Qhs (Qbp ps)=true) (hs:Qbg (Qbp ps)=true) (hw:Qbh (Qbp ps)=true) (hz:Qam ps≤90000)
  (hu:∀ z∈Qjb ps,W64 z.1∧∃ x p,z.2.1=x :: p∧W64 x) :
  Calls Tryz.prog 53 #[.slice A ps.length c] w fun e w'=>∃ b,e = .returned (.map (some b))∧AMap w' b 90001 (Qle (Qjb ps))∧w.heap.size≤b∧Below w.heap.size w w':=by
 have HBM:=hQ (Qc3 w (.map #[] 0))
 have HMM:=hQ (AMap.made w)
 have HC:=hQ (Quc S A c ps (w.alloc (.map #[] 0)) (hp.keep HBM.out) hf hs hw hz)
 have HZL:=hQ (show (Qjb ps).length≤90000 from xQ (Zcb ps) hz)
 obtain ⟨zs,hzs⟩:∃ zs,zs=Qjb ps:=⟨_,rfl⟩
 rw [←hzs] at HC HZL hu ⊢
 have HU:=hQ hu
 have hmm:=@run_makeMap Tryz.prog
 clear hp hf hs hw hz hzs hu
 go_enter Tryz.func53,Tryz.ntmps53
 go_wp2_with (go_at_call 92;refine HC.out.mono ?_;rintro e w1 ⟨v,rfl,ht,hb⟩;obtain ⟨TA,tc,rfl⟩:=ht.slice;have HT1:=hQ ht;have HB1:=hQ hb;clear ht hb)
 go_loopw [10] (fun i wr=>RfL zs (.slice TA zs.length tc) w i wr) (fun i _=>zs.length-(intOf i).toNat)
 case atStart =>
  refine ⟨0,rfl,xZ _,?_,(HMM.out.below HB1.out).mono (xA _),HBM.out.trans (HB1.out.mono HBM.out.size)⟩
  have h:=HT1.out
  rw [xI] at h
  exact h
 case round =>
  obtain ⟨j,rfl,hj,ht,hm,hb⟩:=hrel
  have HT:=hQ ht
  have HM:=hQ hm
  have HB:=hQ hb
  clear ht hm hb
  by_cases hlt:j<zs.length
  ·obtain ⟨z,hz⟩:∃ z,zs[j]? = some z:=⟨_,xF hlt⟩
   obtain ⟨_,g,pv,hTA,_,gl,c0,c1,c2,c3,c4,hrow⟩:=HT.out.at hz
   subst hTA
   obtain ⟨u1,x,pp,u2,u3⟩:=HU.out z (yA hz)
   obtain ⟨m,zp,a,b,f⟩:=z
   simp only at c0 c2 c3 c4 hrow u1 u2
   subst u2
   obtain ⟨pg,pc,hpv,pgl,p0⟩:=Qo3 hrow
   subst hpv
   have HRW:=hQ hrow
   have hk0:(0:Int)≤(j:Int):=by omega
   have hk1:(j:Int)<(zs.length:Int):=by omega
   have hk2:(j:Int)+1≤90001:=by have:=HZL.out;omega
   have HZ:=hQ hz
   have HBA:=hQ (Qc3 wr (tgO m (.slice (some ⟨pg,0,none⟩) (pp.length+1) pc) a b f))
   have HX:=xH wr (tgO m (.slice (some ⟨pg,0,none⟩) (pp.length+1) pc) a b f)
   have W1:=hQ u1
   have W2:=hQ u3
   have hpl:(0:Int)<(pp.length:Int)+1:=by omega
   have hpn:0<pp.length+1:=by omega
   clear hrow hz u1 u3
   by_cases hf:f=true
   ·subst hf
    have HS:=hQ (show Qle (zs.take (j+1))=Qle (zs.take j) from by rw [Qou HZ.out];rfl)
    clear HX hpl hpn
    go_wp2
    go_roundw
    case measure=>first | (simp [intOf];done) | (simp [intOf];omega)
    case rel=>exact ⟨j+1,by go_num,by omega,HT.out.keep HBA.out,by rw [HS.out];exact (HM.out.below HBA.out).mono (Nat.le_succ _),HB.out.trans (HBA.out.mono HB.out.size)⟩
   ·have hf':f=false:=by simpa using hf
    subst hf'
    have HS:=hQ (show Qle (zs.take (j+1))=Qvk (Qle (zs.take j)) (m,x) (a,b) from by rw [Qou HZ.out];rfl)
    have x0:(wr.alloc (.cells #[.int .i64 m,.slice (some ⟨pg,0,none⟩) (pp.length+1) pc,.int .i64 a,.int .i64 b,.bool false] 121)).cell? ⟨wr.heap.size,0,none⟩=some (.int .i64 m):=Qab HX 0 _ rfl
    have x1:(wr.alloc (.cells #[.int .i64 m,.slice (some ⟨pg,0,none⟩) (pp.length+1) pc,.int .i64 a,.int .i64 b,.bool false] 121)).cell? ⟨wr.heap.size,1,none⟩=some (.slice (some ⟨pg,0,none⟩) (pp.length+1) pc):=Qab HX 1 _ rfl
    have x2:(wr.alloc (.cells #[.int .i64 m,.slice (some ⟨pg,0,none⟩) (pp.length+1) pc,.int .i64 a,.int .i64 b,.bool false] 121)).cell? ⟨wr.heap.size,2,none⟩=some (.int .i64 a):=Qab HX 2 _ rfl
    have x3:(wr.alloc (.cells #[.int .i64 m,.slice (some ⟨pg,0,none⟩) (pp.length+1) pc,.int .i64 a,.int .i64 b,.bool false] 121)).cell? ⟨wr.heap.size,3,none⟩=some (.int .i64 b):=Qab HX 3 _ rfl
    have x4:(wr.alloc (.cells #[.int .i64 m,.slice (some ⟨pg,0,none⟩) (pp.length+1) pc,.int .i64 a,.int .i64 b,.bool false] 121)).cell? ⟨wr.heap.size,4,none⟩=some (.bool false):=Qab HX 4 _ rfl
    clear HX
    have HROW:=HRW.out.keep HBA.out
    obtain ⟨pg2,pc2,hpv2,pgl2,q0⟩:=Qo3 HROW
    have e2:pg2=pg:=by injection hpv2 with e _ _;injection e with e;injection e with e _ _;exact e.symm
    subst e2
    have xl:wr.heap.size<(wr.alloc (.cells #[.int .i64 m,.slice (some ⟨pg2,0,none⟩) (pp.length+1) pc,.int .i64 a,.int .i64 b,.bool false] 121)).heap.size:=by rw [xI];omega
    have HBX:=hQ (show Below wr.heap.size wr (wr.alloc (.cells #[.int .i64 m,.slice (some ⟨pg2,0,none⟩) (pp.length+1) pc,.int .i64 a,.int .i64 b,.bool false] 121)) from HBA.out)
    clear HROW hpv2 p0 HBA
    go_wp2_with fail
    generalize (wr.alloc (.cells #[.int .i64 m,.slice (some ⟨pg2,0,none⟩) (pp.length+1) pc,.int .i64 a,.int .i64 b,.bool false] 121))=wx at x0 x1 x2 x3 x4 q0 pgl2 xl HBX ⊢
    go_still_tail 15,(by kernel_rfl)
    change wpList _ _ _ _ _ wx.drew
    have HBD:=hQ (show Below wr.heap.size wr wx.drew from HBX.out.drew)
    clear x0 x1 x2 x3 x4 c0 c1 c2 c3 c4 q0
    generalize wx.drew=wd at HBD ⊢
    have HMD:=hQ (HM.out.below HBD.out)
    have HN:=hQ (show j<maxLen from by have:=HZL.out;unfold maxLen;omega)
    refine Qng rfl _ _ _ rfl w.heap.size j _ rfl HMD.out HN.out m x a b rfl rfl W1.out W2.out ?_
    intro w6 hm6 hg6
    have HM6:=hQ hm6
    have HG6:=hQ hg6
    clear hm6 hg6
    go_wp2
    go_roundw
    case measure=>first | (simp [intOf];done) | (simp [intOf];omega)
    case rel=>exact ⟨j+1,by go_num,by omega,(HT.out.keep HBD.out).map HMD.out (xW _) HG6.out,by rw [HS.out];exact HM6.out,HB.out.trans ((HBD.out.mono HB.out.size).trans (Zc4 HG6.out (xA _) (xQ HB.out.size HBD.out.size)))⟩
  ·obtain rfl:j=zs.length:=by omega
   have HS:=hQ (show Qle (zs.take zs.length)=Qle zs from by rw [List.take_length])
   go_wp2
   go_ret
   exact ⟨_,rfl,by rw [←HS.out];exact HM.out.mono (by have:=HZL.out;omega),xA _,HB.out⟩
end Go.Proofs.YtclkilljmdkfaaaGreat
