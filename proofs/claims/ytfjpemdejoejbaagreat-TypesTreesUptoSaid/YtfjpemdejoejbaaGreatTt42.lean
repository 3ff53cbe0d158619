/- Part 42 -/
import Derived.Test.YtfjpemdejoejbaaGreatTt36
import Derived.Test.YtfjpemdejoejbaaGreatTt37
set_option maxRecDepth 100000
set_option maxHeartbeats 4000000
namespace Go.Proofs.YtfjpemdejoejbaaGreat
open Go.RowKit Go.Shelf
def OutL (ps:List Tr) (w:World) (q i:Value) (wr:World):Prop:=∃ j:Nat,i = .int .i64 (j:Int)∧j≤ps.length∧OT wr w.heap.size w.heap.size q ((ps.take j).map Qn7)∧Below w.heap.size w wr
abbrev Zds (k:Int) (x:ByteArray) (l:Value):Obj:=.cells #[.int .i64 k,.string x,.slice none 0 0,l] 25
def InL (B0:Nat) (t:Tr) (v:TV) (w0:World) (i:Value) (wr:World):Prop:=∃ (j:Nat) (l:Value),i = .int .i64 (j:Int)∧j≤t.kids.length∧wr.heap[w0.heap.size]? = some (trO v)∧wr.heap[w0.heap.size+1]? = some (Zds t.kind t.text l) ∧
 OT wr B0 (w0.heap.size+2) l ((t.kids.take j).map Qgq)∧Below w0.heap.size w0 wr
theorem Qx1 {B0:Nat} {t k:Tr} {v y:TV} {w0 wr wk w6:World} {j g cap:Nat} {l:Value} {vs:List TV} {us:List Tr} (hus:us=(t.kids.take j).map Qgq) (hk:t.kids[j]? = some k) (hB:B0≤w0.heap.size)
  (h0:wr.heap[w0.heap.size]? = some (trO v)) (h1:wr.heap[w0.heap.size+1]? = some (Zds t.kind t.text l)) (hb:Below w0.heap.size w0 wr) (hbk:Below wr.heap.size wr wk) (hlen:vs.length=us.length)
  (hrow:wk.ownsRow (w0.heap.size+2) 25 4 l us.length (Qaf vs))
  (h3:∀ (i:Nat) (k:Tr) (u:TV),us[i]? = some k→vs[i]? = some u→TrAt (fun b=>(b<B0∨w0.heap.size+2≤b)∧b<wk.heap.size∧l.ownBlock≠some b) wk k u)
  (hy:TrAt (fun b=>(b<B0∨w0.heap.size+2≤b)∧b<wk.heap.size∧l.ownBlock≠some b) wk (Qgq k) y)
  (ho:w6.ownsRow (w0.heap.size+2) 25 4 (.slice (some ⟨g,0,none⟩) (us.length+1) cap) (us.length+1) (Qaf vs ++ y.cells)) (hkp:Keeps (pre l (us.length*4)) wk w6) (hg:l.ownBlock=some g∨wk.heap.size≤g) :
  InL B0 t v w0 (.int .i64 ((j+1:Nat):Int)) (w6.setCell ⟨w0.heap.size+1,3,none⟩ (.slice (some ⟨g,0,none⟩) (us.length+1) cap)):=by
 have hlo:∀ b,b<w0.heap.size+2→l.ownBlock≠some b:=fun b hl e=>by have:=(World.ownsRow.lt hrow b e).1;omega
 have hlt:=(xP.1 hk).1;have hw:∀ b,b<w0.heap.size+2→b<wr.heap.size→w6.heap[b]? = wr.heap[b]?:=fun b h hl=>(hkp.block b (xE hl hbk.size) (Qb8 (hlo b h))).trans (hbk.block b hl)
 have hst:=OT.snoc (k:=Qgq k) hlen hrow h3 hy ho hkp hg;have hb6:Below w0.heap.size w0 w6:=hb.trans ((hbk.mono hb.size).trans (hkp.below (xQ hb.size hbk.size) fun b hl=>Qb8 (hlo b (by omega))));refine ⟨j+1,.slice (some ⟨g,0,none⟩) (us.length+1) cap,rfl,by omega,(Qcy (by omega)).trans ((hw _ (by omega) (Qab h0)).trans h0),Qa5 ((hw _ (by omega) (Qab h1)).trans h1) rfl,?_,hb6.setCell (p:=⟨w0.heap.size+1,3,none⟩) (by show w0.heap.size≤w0.heap.size+1;omega) _⟩;rw [Qsi Qgq _ _ _ hk,←hus];exact hst.keep (by simp [World.setCell]) fun b hl h=>Qcy (by omega)
theorem Za4 {ps:List Tr} {t:Tr} {w wr wi wk w6:World} {j g cap c:Nat} {q:Value} {A:Option Addr} {vs:List TV} {ts us:List Tr} (hts:ts=(ps.take j).map Qn7) (hus:us=t.kids.map Qgq) (ht:ps[j]? = some t) (hb:Below w.heap.size w wr) (hbi:Below wr.heap.size wr wi) (hbk:Below wi.heap.size wi wk)
  (hlen:vs.length=ts.length) (hrow:wk.ownsRow w.heap.size 25 4 q ts.length (Qaf vs)) (hq:∀ b,q.ownBlock=some b→b<wr.heap.size)
  (h3:∀ (i:Nat) (k:Tr) (u:TV),ts[i]? = some k→vs[i]? = some u→TrAt (fun b=>(b<w.heap.size∨w.heap.size≤b)∧b<wk.heap.size∧q.ownBlock≠some b) wk k u)
  (hot:OT wi w.heap.size (wr.heap.size+2) (.slice A us.length c) us)
  (ho:w6.ownsRow w.heap.size 25 4 (.slice (some ⟨g,0,none⟩) (ts.length+1) cap) (ts.length+1) (Qaf vs ++ TV.cells ⟨t.kind,t.text,none,0,0,A,us.length,c⟩)) (hkp:Keeps (pre q (ts.length*4)) wk w6) (hg:q.ownBlock=some g∨wk.heap.size≤g) :
  OutL ps w (.slice (some ⟨g,0,none⟩) (ts.length+1) cap) (.int .i64 ((j+1:Nat):Int)) w6:=by
 subst hus;have hlt:=(xP.1 ht).1;have hlo:∀ b,b<w.heap.size→q.ownBlock≠some b:=fun b hl e=>by have:=(World.ownsRow.lt hrow b e).1;omega
 have hotk:=hot.below hbk
 have hy:TrAt (fun b=>(b<w.heap.size∨w.heap.size≤b)∧b<wk.heap.size∧q.ownBlock≠some b) wk (Qn7 t) ⟨t.kind,t.text,none,0,0,A,(t.kids.map Qgq).length,c⟩:=by
  refine hotk.node t.kind t.text fun b hb' hl=>⟨by omega,hl,fun e=>?_⟩
  have h1:=hq b e;have h2:=(World.ownsRow.lt hrow b e).1;omega
 have hst:=OT.snoc (k:=Qn7 t) hlen hrow h3 hy ho hkp hg;refine ⟨j+1,rfl,by omega,?_,hb.trans ((hbi.mono hb.size).trans ((hbk.mono (xQ hb.size hbi.size)).trans (hkp.below (xQ (xQ hb.size hbi.size) hbk.size) fun b hl=>Qb8 (hlo b hl))))⟩;rw [Qsi Qn7 _ _ _ ht,←hts];exact hst
abbrev Qx2:Obj:=.cells #[.int .i64 5,.string ⟨#[]⟩,.slice none 0 0,.slice none 0 0,.int .i64 15,.string ⟨#[]⟩,.slice none 0 0,.slice none 0 0] 25
abbrev Zbw (u:TV):Obj:=.cells #[.int .i64 u.kind,.string u.text,.slice u.la u.ll u.lc,.slice u.ka u.kl u.kc] 25
abbrev Za5 (k:Int) (x:ByteArray) (g n:Nat):Obj:=.cells #[.int .i64 k,.string x,.slice none 0 0,.slice (some ⟨g,0,none⟩) n n] 25
theorem Za6 {w:World} {k:Tr} {g:Nat} {S:Nat→Prop} (h3:k.kind≠3) (hg:w.heap[g]? = some Qx2) (hS:S g):TrAt S w (Qgq k) ⟨k.kind,k.text,none,0,0,some ⟨g,0,none⟩,2,2⟩:=by
 unfold Qgq;rw [xN h3];refine Qla (us:=[⟨5,⟨#[]⟩,none,0,0,none,0,0⟩,⟨15,⟨#[]⟩,none,0,0,none,0,0⟩]) k.kind k.text rfl (fun i a u ha hu=>?_) hg hS 2 rfl
 match i,ha,hu with
 | 0,ha,hu =>
  injection ha with ha;injection hu with hu;subst ha hu;exact Qk9 _ _ _ _
 | 1,ha,hu =>
  injection ha with ha;injection hu with hu;subst ha hu;exact Qk9 _ _ _ _
 | i+2,ha,_=>simp at ha
theorem Qx3 {w:World} {k a:Tr} {u:TV} {g:Nat} {S:Nat→Prop} (h3:k.kind=3) (hk:k.kids = [a]) (hu:TrAt S w (Qav a) u) (hg:w.heap[g]? = some (Zbw u)) (hS:S g):TrAt S w (Qgq k) ⟨k.kind,k.text,none,0,0,some ⟨g,0,none⟩,1,1⟩:=by
 unfold Qgq;rw [xO h3,hk];refine Qla (us:=[u]) k.kind k.text rfl (fun i b v ha hv=>?_) hg hS 1 rfl
 match i,ha,hv with
 | 0,ha,hv =>
  injection ha with ha;injection hv with hv;subst ha hv;exact hu
 | i+1,ha,_=>simp at ha
theorem Qfk {wr w5:World} (hb:Below wr.heap.size wr w5) (a b c:Obj):Below wr.heap.size wr (((w5.alloc a).alloc b).alloc c) :=
 ((hb.alloc hb.size a).alloc (by rw [xI];have:=hb.size;omega) b).alloc (by rw [xI,xI];have:=hb.size;omega) c
theorem Qi0 (w5:World) (a b c:Obj):(((w5.alloc a).alloc b).alloc c).heap[w5.heap.size+1]? = some b:=((Qbq ((w5.alloc a).alloc b) c).block _ (by rw [xI,xI];omega)).trans (Qch w5 a b).2
theorem Qgc (w5:World) (a b c:Obj):(((w5.alloc a).alloc b).alloc c).heap.size=w5.heap.size+3:=by rw [xI,xI,xI]
theorem Qup (w5:World) (a b:Obj) (k:Int) (x:ByteArray):∀ (q:Nat) (z:Value),(TV.cells ⟨k,x,none,0,0,some ⟨w5.heap.size+1,0,none⟩,1,1⟩)[q]? = some z→(((w5.alloc a).alloc b).alloc (Za5 k x (w5.heap.size+1) 1)).cell? ((⟨w5.heap.size+2,0,none⟩:Addr).add q)=some z:=by
 have h:=xM (xH ((w5.alloc a).alloc b) (Za5 k x (w5.heap.size+1) 1));rw [xI,xI] at h;exact h
theorem Qx4 {wr w5:World} {a b:Obj} (h:Below ((wr.alloc a).alloc b).heap.size ((wr.alloc a).alloc b) w5):w5.heap[wr.heap.size]? = some a:=(h.block _ (by rw [xI,xI];omega)).trans (Qch wr a b).1
theorem Ze0 {B0:Nat} {w0 wr:World} {k:Tr} {l:Value} (o1 c:Obj) (h3:k.kind≠3) (hl:w0.heap.size+1<wr.heap.size) (hown:∀ b,l.ownBlock=some b→b<wr.heap.size) :
  TrAt (fun b=>(b<B0∨w0.heap.size+2≤b)∧b<(((wr.alloc o1).alloc Qx2).alloc c).heap.size∧l.ownBlock≠some b) (((wr.alloc o1).alloc Qx2).alloc c) (Qgq k) ⟨k.kind,k.text,none,0,0,some ⟨wr.heap.size+1,0,none⟩,2,2⟩ :=
 Za6 h3 (Qi0 wr o1 Qx2 c) ⟨.inr (by omega),by rw [Qgc];omega,fun e=>by have:=hown _ e;omega⟩
theorem Zdt {B0:Nat} {w0 wr w5:World} {k a:Tr} {y:TV} {l:Value} (o1 c:Obj) (h3:k.kind=3) (hk:k.kids = [a]) (hB:B0≤w0.heap.size) (hl:w0.heap.size+1<wr.heap.size) (hown:∀ b,l.ownBlock=some b→w0.heap.size+2≤b∧b<wr.heap.size) (hb:Below wr.heap.size wr w5)
  (hy:TrAt (fun b=>b<B0) w5 (Qav a) y) :
  TrAt (fun b=>(b<B0∨w0.heap.size+2≤b)∧b<(((w5.alloc o1).alloc (Zbw y)).alloc c).heap.size∧l.ownBlock≠some b) (((w5.alloc o1).alloc (Zbw y)).alloc c) (Qgq k) ⟨k.kind,k.text,none,0,0,some ⟨w5.heap.size+1,0,none⟩,1,1⟩:=by
 have hs:=hb.size;refine Qx3 h3 hk (TrAt.move (fun b hb'=>⟨.inl hb',by rw [Qgc];omega,fun e=>by have:=hown _ e;omega⟩) (fun b _ hlt=>(Qfk (xC w5.heap.size w5) o1 (Zbw y) c).block b hlt) _ _ hy) (Qi0 w5 o1 (Zbw y) c) ⟨.inr (by omega),by rw [Qgc];omega,fun e=>by have:=hown _ e;omega⟩
theorem Qx5 {ps:List Tr} {m d:Nat} {t k:Tr} (hz:∀ t∈ps,Qal t≤1000) (hg:Qb4 ps=true) (ht:ps[m]? = some t) (hk:t.kids[d]? = some k):Qar k=true∧Qal k≤1000:=by
 obtain ⟨_,q2⟩:=Qfc hg ht;have hzt:=hz t (yA ht);rw [←Qbl _ t (xA _) hzt] at q2;exact ⟨((Qe2 q2).2.2 d k hk).2,by have:=Qdn hk;omega⟩
theorem Qe4 {w w':World} {B:Nat} {e:TypeId} {size n:Nat} {v:Value} {xs:List Value} (h:w.ownsRow B e size v n xs) (hb:Below w.heap.size w w'):w'.ownsRow B e size v n xs:=(Keeps.of_below (P:=fun _=>none) hb).row h fun _ _=>.inl rfl
theorem Qpn {w0 wr wk w6:World} {l:Value} {n:Nat} {xs:List Value} {o:Obj} (hrow:wk.ownsRow (w0.heap.size+2) 25 4 l n xs) (hk:Keeps (pre l (n*4)) wk w6) (hb:Below wr.heap.size wr wk) (h:wr.heap[w0.heap.size+1]? = some o):w6.heap[w0.heap.size+1]? = some o:=by
 have hl:=Qab h;exact (hk.block _ (xE hl hb.size) (Qb8 fun e=>by have:=(World.ownsRow.lt hrow _ e).1;omega)).trans ((hb.block _ hl).trans h)
theorem Qrj (S:Nat→Prop) (A:Option Addr) (c:Nat) (ps:List Tr) (w:World) (hp:TrAt S w (Qap ps) ⟨0,⟨#[]⟩,none,0,0,A,ps.length,c⟩) (hg:Qb4 ps=true) (hz:∀ t∈ps,Qal t≤1000) (hl:ps.length≤90000) :
  Calls Tryz.prog 36 #[.slice A ps.length c] w fun e w'=>∃ A' c',e = .returned (.slice A' ps.length c')∧OT w' w.heap.size w.heap.size (.slice A' ps.length c') (Qgr ps)∧Below w.heap.size w w':=by
 obtain ⟨it,hit,ht0,ht1,ht2⟩:=info_parts Qdv;have HP:=hQ (TrAt.low _ _ hp);have HG:=hQ hg;have HZ:=hQ hz;have HMB:=hQ (show it.bytes*ps.length≤281474976710656 from by rw [ht2];omega);have HMM:=hQ (show ps.length≤maxLen from by unfold maxLen;omega);clear hp hg hz
 go_enter Tryz.func36,Tryz.ntmps36
 go_wp2_with (refine wpList_make_own _ rfl _ _ 22 rfl w.heap.size 25 it _ 4 Tryz.underlying22 hit ht0 ht1 .i64 .i64 _ ps.length rfl rfl rfl HMB.out HMM.out (xA _) ?_;intro w1 hown1 hg1;have HO1:=hQ hown1;have HB1:=hQ (Qqr hg1);clear hown1 hg1)
 go_loopw [3,17] (fun q i wr=>OutL ps w q i wr) (fun _ i _=>ps.length-(intOf i).toNat)
 case atStart=>exact ⟨0,rfl,xZ _,OT.empty HO1.out,HB1.out⟩
 case round =>
  obtain ⟨j,rfl,hj,hot,hb⟩:=hrel;have HBR:=hQ hb;obtain ⟨w0,hw0⟩:∃ w',w'=wr:=⟨_,rfl⟩;subst hw0;obtain ⟨ts,hts⟩:∃ ts,ts=(ps.take j).map Qn7:=⟨_,rfl⟩;rw [←hts] at hot;have HTS:=hQ hts;clear hts;obtain ⟨QA,qc,hq⟩:=hot.slice;subst hq;have HOT:=hQ hot;clear hot hb
  by_cases hlt:j<ps.length
  ·obtain ⟨t,ht⟩:∃ t,ps[j]? = some t:=⟨_,xF hlt⟩;obtain ⟨b,off,hka⟩:∃ b off,A=some ⟨b,off,none⟩:=HP.out.addr.resolve_left (by show ¬ ps.length=0;omega);subst hka;obtain ⟨u,c0,c1,c2,c3,hu⟩:=(HP.out.keep HBR.out).at rfl (show (Qap ps).kids[j]? = some t from ht);have HU:=hQ hu;have HT:=hQ ht;obtain ⟨u1,u2,u3,u4⟩:=hu.kl;obtain ⟨uk,ux,ula,ull,ulc,uka,ukl,ukc⟩:=u;simp only at u1 u2 u3 u4;subst u1 u2 u3 u4;have cl:=xK w0 _ c0;have hk0:(0:Int)≤(j:Int):=by omega
   have hk1:(j:Int)<(ps.length:Int):=by omega
   have HK2:=hQ (show (j:Int)+1≤90001 by omega);have hkl:t.kids.length≤1000:=by have h1:=HZ.out t (yA ht);have h2:=Qa4 t.kids;have h3:=Qa9 t;omega
   obtain ⟨bx0,bx1⟩:=Qch w0 (trO ⟨t.kind,t.text,ula,t.leads.length,ulc,uka,t.kids.length,ukc⟩) (Zds t.kind t.text (.slice none 0 0));have BX0:=hQ bx0;have BX1:=hQ bx1;have BXB:=hQ (Qc6 w0 (trO ⟨t.kind,t.text,ula,t.leads.length,ulc,uka,t.kids.length,ukc⟩) (Zds t.kind t.text (.slice none 0 0)));clear bx0 bx1 hu ht
   go_wp2
   go_loopw [29] (fun i wr=>InL w.heap.size t ⟨t.kind,t.text,ula,t.leads.length,ulc,uka,t.kids.length,ukc⟩ w0 i wr) (fun i _=>t.kids.length-(intOf i).toNat)
   case atStart=>exact ⟨0,.slice none 0 0,rfl,xZ _,BX0.out,BX1.out,OT.nil _ _ _,BXB.out⟩
   case round =>
    obtain ⟨d,l,rfl,hd,h0,h1,hin,hbi⟩:=hrel;obtain ⟨us,hus⟩:∃ us,us=(t.kids.take d).map Qgq:=⟨_,rfl⟩;rw [←hus] at hin;have HUS:=hQ hus;clear hus;obtain ⟨MA,mc,hm⟩:=hin.slice;subst hm;have H0:=hQ h0;have H1:=hQ h1;have HIN:=hQ hin;have HBI:=hQ hbi;have m3:wr.cell? ⟨w0.heap.size+1,3,none⟩=some _:=Qaa h1 3 _ rfl;have mbl:=Qab h1;have mfr:=xL h1;have k3:=Qaa h0 3 _ rfl;have k0:=Qaa h0 0 _ rfl;have k1:=Qaa h0 1 _ rfl;have tbl:=Qab h0;clear hin hbi h0 h1
    by_cases hdl:d<t.kids.length
    ·obtain ⟨k,hk⟩:∃ k,t.kids[d]? = some k:=⟨_,xF hdl⟩;obtain ⟨kb,ko,hua⟩:∃ b off,uka=some ⟨b,off,none⟩:=HU.out.addr.resolve_left (by omega);subst hua;have HWR:=hQ (HBR.out.trans (HBI.out.mono HBR.out.size));obtain ⟨v,e0,e1,e2,e3,hv⟩:=(HU.out.keep (HBI.out.mono (xA _))).at rfl hk;obtain ⟨v1,v2,v3,v4⟩:=hv.kl;have HV:=hQ hv;have HK:=hQ hk;have HOK:=hQ (Qx5 HZ.out HG.out HT.out hk);have el:=xK wr _ e0;have hd0:(0:Int)≤(d:Int):=by omega
     have hd1:(d:Int)<(t.kids.length:Int):=by omega
     have hd2:(d:Int)+1≤1001:=by omega
     obtain ⟨vs,hlen,hrow,hts⟩:=HIN.out;have HLEN:=hQ hlen;have HROW:=hQ hrow;have HTR:=hQ hts;have hul:us.length=d:=by rw [HUS.out,List.length_map,List.length_take];omega
     have HM1:=hQ (show us.length+1≤maxLen from by unfold maxLen;omega);have HM2:=hQ (show (us.length+1)*72≤140737488355328 from by omega);have HJ:=hQ hul;clear hlen hrow hts hul hv hk;obtain ⟨dk,dx,dla,dll,dlc,dka,dkl,dkc⟩:=v;simp only at v1 v2 v3 v4;subst v1 v2 v3 v4
     by_cases h3:k.kind=3
     ·have q3:(k.kind==3)=true:=by simp [h3]
      obtain ⟨a,ha,ha1,ha2⟩:=Qk6 HOK.out.1 h3;have HA:=hQ ha;have haj:k.kids[0]? = some a:=by rw [ha];rfl
      have hkl1:k.kids.length=1:=by rw [ha];rfl
      obtain ⟨ab,ao,hdka⟩:∃ b off,dka=some ⟨b,off,none⟩:=HV.out.addr.resolve_left (by omega);subst hdka;obtain ⟨x,f0,f1,f2,f3,hx⟩:=HV.out.at rfl haj;simp only [Nat.zero_mul,Nat.add_zero] at f0 f1 f2 f3;have fl:=xK wr _ f0;have HW2:=hQ (Qc6 wr (trO ⟨k.kind,k.text,dla,k.leads.length,dlc,some ⟨ab,ao,none⟩,k.kids.length,dkc⟩) Qx2);have DX0:=hQ (Qch wr (trO ⟨k.kind,k.text,dla,k.leads.length,dlc,some ⟨ab,ao,none⟩,k.kids.length,dkc⟩) Qx2).1;have HC:=hQ (Qsg _ (fun b=>b<w.heap.size) a x _ (xA _) (fun b hb=>xE hb (xQ HWR.out.size HW2.out.size)) (hx.keep HW2.out) ha2 ha1 (by have:=Qdn haj;have:=HOK.out.2;omega));have H3:=hQ h3;have hi0:(0:Int)<(k.kids.length:Int):=by omega
      clear ha ha1 ha2 haj hx h3 hkl1
      go_wp2_with (first
       | (go_at_call 55;refine HC.out.mono ?_;rintro e w5 ⟨y,rfl,hy,hb5⟩;have HY:=hQ hy;have HB5:=hQ (HW2.out.trans (hb5.mono HW2.out.size));have g1:=(HB5.out.block (w0.heap.size+1) mbl).trans H1.out;have g0:=Qx4 hb5;clear hy hb5 m3 mbl mfr e0 e1 e2 e3 f0 f1 f2 f3;have m3:w5.cell? ⟨w0.heap.size+1,3,none⟩=some _:=Qaa g1 3 _ rfl;have mbl:=Qab g1;have mfr:=xL g1;have e0:w5.cell? ⟨wr.heap.size,0,none⟩=some (.int .i64 k.kind):=Qaa g0 0 _ rfl;have e1:w5.cell? ⟨wr.heap.size,1,none⟩=some (.string k.text):=Qaa g0 1 _ rfl;have dbl:=Qab g0;have mb2:=Nat.lt_of_succ_lt mbl;have mb3:=Nat.lt_succ_of_lt mb2;clear g0 g1;have HWK:=hQ (Qfk HB5.out (trO y) (Zbw y) (Za5 k.kind k.text (w5.heap.size+1) 1));have HRW:=hQ (Qe4 HROW.out HWK.out);have HNW:=hQ (Qup w5 (trO y) (Zbw y) k.kind k.text);have HSZ:=hQ (show w0.heap.size+2≤(((w5.alloc (trO y)).alloc (Zbw y)).alloc (Za5 k.kind k.text (w5.heap.size+1) 1)).heap.size from by rw [Qgc];have:=HB5.out.size;omega))
       | (at_builtin;refine Qec _ rfl _ _ 22 rfl (w0.heap.size+2) 25 it _ 4 72 Tryz.underlying22 hit ht0 ht1 ht2 rfl (by decide) _ us.length (Qaf vs) rfl HRW.out ⟨w5.heap.size+2,0,none⟩ 1 1 (TV.cells ⟨k.kind,k.text,none,0,0,some ⟨w5.heap.size+1,0,none⟩,1,1⟩) rfl rfl HNW.out (Qfx _) (by decide) HM1.out HM2.out HSZ.out ?_;intro g6 c6 w6 hown6 hk6 hg6 hlt6;have HO6:=hQ hown6;have HK6:=hQ hk6;have HG6:=hQ hg6;have x1:=Qpn HRW.out HK6.out HWK.out H1.out;clear hown6 hk6 hg6 hlt6 m3 mbl mfr;have m3:w6.cell? ⟨w0.heap.size+1,3,none⟩=some _:=Qaa x1 3 _ rfl;have mbl:=Qab x1;have mfr:=xL x1;clear x1))
      go_roundw
      case measure=>first | (simp [intOf];done) | (simp [intOf];omega)
      case rel=>exact Qx1 HUS.out HK.out HBR.out.size H0.out H1.out HBI.out HWK.out HLEN.out HRW.out (fun i k u hk hu=>TrAt.move (fun b hb=>⟨hb.1,xE hb.2.1 HWK.out.size,hb.2.2⟩) (fun b _ hl=>HWK.out.block b hl) _ _ (HTR.out i k u hk hu)) (Zdt _ _ H3.out HA.out HBR.out.size (Qab H1.out) HIN.out.lt HB5.out HY.out) HO6.out HK6.out HG6.out
     ·have q3:=Qcm h3;have HOT3:=hQ (Qc6 wr (trO ⟨k.kind,k.text,dla,k.leads.length,dlc,dka,k.kids.length,dkc⟩) Qx2);have HWK:=hQ (HOT3.out.alloc HOT3.out.size (Za5 k.kind k.text (wr.heap.size+1) 2));have HRW:=hQ (show ((((wr.alloc (trO ⟨k.kind,k.text,dla,k.leads.length,dlc,dka,k.kids.length,dkc⟩)).alloc Qx2).alloc (Za5 k.kind k.text (wr.heap.size+1) 2)).ownsRow (w0.heap.size+2) 25 4 (.slice MA us.length mc) us.length (Qaf vs)) from Qe4 HROW.out HWK.out)
      have HNW:=hQ (show ∀ (q:Nat) (x:Value),(TV.cells ⟨k.kind,k.text,none,0,0,some ⟨wr.heap.size+1,0,none⟩,2,2⟩)[q]? = some x→(((wr.alloc (trO ⟨k.kind,k.text,dla,k.leads.length,dlc,dka,k.kids.length,dkc⟩)).alloc Qx2).alloc (Za5 k.kind k.text (wr.heap.size+1) 2)).cell? ((⟨wr.heap.size+2,0,none⟩:Addr).add q)=some x from by
       have h:=xM (xH ((wr.alloc (trO ⟨k.kind,k.text,dla,k.leads.length,dlc,dka,k.kids.length,dkc⟩)).alloc Qx2) (Za5 k.kind k.text (wr.heap.size+1) 2));rw [xI,xI] at h;exact h)
      have HSZ:=hQ (show w0.heap.size+2≤(((wr.alloc (trO ⟨k.kind,k.text,dla,k.leads.length,dlc,dka,k.kids.length,dkc⟩)).alloc Qx2).alloc (Za5 k.kind k.text (wr.heap.size+1) 2)).heap.size from by rw [xI,xI,xI];omega);have H3:=hQ h3;clear h3;go_wp2_with (at_builtin;refine Qec _ rfl _ _ 22 rfl (w0.heap.size+2) 25 it _ 4 72 Tryz.underlying22 hit ht0 ht1 ht2 rfl (by decide) _ us.length (Qaf vs) rfl HRW.out ⟨wr.heap.size+2,0,none⟩ 1 1 (TV.cells ⟨k.kind,k.text,none,0,0,some ⟨wr.heap.size+1,0,none⟩,2,2⟩) rfl rfl HNW.out (Qfx _) (by decide) HM1.out HM2.out HSZ.out ?_;intro g6 c6 w6 hown6 hk6 hg6 hlt6;have HO6:=hQ hown6;have HK6:=hQ hk6;have HG6:=hQ hg6;have x1:=Qpn HRW.out HK6.out HWK.out H1.out;clear hown6 hk6 hg6 hlt6 m3 mbl mfr;have m3:w6.cell? ⟨w0.heap.size+1,3,none⟩=some _:=Qaa x1 3 _ rfl;have mbl:=Qab x1;have mfr:=xL x1;clear x1)
      go_roundw
      case measure=>first | (simp [intOf];done) | (simp [intOf];omega)
      case rel=>exact Qx1 HUS.out HK.out HBR.out.size H0.out H1.out HBI.out HWK.out HLEN.out HRW.out (fun i k u hk hu=>TrAt.move (fun b hb=>⟨hb.1,xE hb.2.1 HWK.out.size,hb.2.2⟩) (fun b _ hl=>HWK.out.block b hl) _ _ (HTR.out i k u hk hu)) (Ze0 _ _ H3.out (Qab H1.out) (fun b hb=>(HIN.out.lt b hb).2)) HO6.out HK6.out HG6.out
    ·obtain rfl:d=t.kids.length:=by omega
     have HW3:=hQ (show t.kids.take t.kids.length=t.kids from List.take_length);have HUS2:=hQ (show us=t.kids.map Qgq from HUS.out.trans (by rw [HW3.out]));have hk2:=HK2.out;obtain ⟨vs,hlen,hrow,htt⟩:=HOT.out;have HLEN:=hQ hlen;have HWK:=hQ (show Below w0.heap.size w0 (wr.alloc (Zds t.kind t.text (.slice MA us.length mc))) from HBI.out.alloc HBI.out.size _);have HRW:=hQ (Qe4 hrow HWK.out);have HTR:=hQ htt;have hul:ts.length=j:=by rw [HTS.out,List.length_map,List.length_take];omega
     have HM1:=hQ (show ts.length+1≤maxLen from by unfold maxLen;omega);have HM2:=hQ (show (ts.length+1)*72≤140737488355328 from by omega);have HNW:=hQ (xM (xH wr (Zds t.kind t.text (.slice MA us.length mc))));have HSZ:=hQ (show w.heap.size≤(wr.alloc (Zds t.kind t.text (.slice MA us.length mc))).heap.size from xQ HBR.out.size HWK.out.size);have m0:wr.cell? ⟨w0.heap.size+1,0,none⟩=some _:=Qaa H1.out 0 _ rfl;have m1:wr.cell? ⟨w0.heap.size+1,1,none⟩=some _:=Qaa H1.out 1 _ rfl;have m2:wr.cell? ⟨w0.heap.size+1,2,none⟩=some _:=Qaa H1.out 2 _ rfl;clear hlen hrow htt hul;go_wp2_with (at_builtin;refine Qec _ rfl _ _ 22 rfl w.heap.size 25 it _ 4 72 Tryz.underlying22 hit ht0 ht1 ht2 rfl (by decide) _ ts.length (Qaf vs) rfl HRW.out ⟨wr.heap.size,0,none⟩ 1 1 (TV.cells ⟨t.kind,t.text,none,0,0,MA,us.length,mc⟩) rfl rfl HNW.out (Qfx _) (by decide) HM1.out HM2.out HSZ.out ?_;intro g6 c6 w6 hown6 hk6 hg6 hlt6;have HO6:=hQ hown6;have HK6:=hQ hk6;have HG6:=hQ hg6;clear hown6 hk6 hg6 hlt6)
     go_roundw
     case measure=>first | (simp [intOf];done) | (simp [intOf];omega)
     case rel=>exact Za4 HTS.out HUS2.out HT.out HBR.out HBI.out (Qbq wr _) HLEN.out HRW.out (fun b hb=>(HOT.out.lt b hb).2) (fun i k u hk hu=>TrAt.move (fun b hb=>⟨hb.1,xE hb.2.1 HWK.out.size,hb.2.2⟩) (fun b _ hl=>HWK.out.block b hl) _ _ (HTR.out i k u hk hu)) HIN.out HO6.out HK6.out HG6.out
  ·obtain rfl:j=ps.length:=by omega
   have HW3:=hQ (show ps.take ps.length=ps from List.take_length);have hl3:ts.length=ps.length:=by rw [HTS.out,HW3.out,List.length_map]
   have HE:=hQ (show ts=Qgr ps from HTS.out.trans (by rw [HW3.out];rfl));have HL3:=hQ hl3;clear hl3
   go_wp2
   go_ret
   refine ⟨QA,qc,by rw [HL3.out];first | rfl | simp,?_,HBR.out⟩;have h:=HOT.out;rw [HE.out,show (Qgr ps).length=ps.length from by rw [←HE.out];exact HL3.out] at h;exact h
end Go.Proofs.YtfjpemdejoejbaaGreat
