/- Part 37 -/
import Derived.Test.YtclkilljmdkfaaaGreatTf34
import Derived.Deep.DeepCutAuto
set_option maxRecDepth 100000
set_option maxHeartbeats 4000000
namespace Go.Proofs.YtclkilljmdkfaaaGreat
open Go.RowKit Go.Shelf
def OutL (ps:List Tr) (w:World) (q i:Value) (wr:World):Prop:=∃ j:Nat,i = .int .i64 (j:Int)∧j≤ps.length∧OT wr w.heap.size w.heap.size q ((ps.take j).map Qqp)∧Below w.heap.size w wr
abbrev Zjp (k:Int) (x:ByteArray) (l:Value):Obj:=.cells #[.int .i64 k,.string x,.slice none 0 0,l] 25
def InL (B0:Nat) (t:Tr) (v:TV) (w0:World) (i:Value) (wr:World):Prop:=∃ (j:Nat) (l:Value),i = .int .i64 (j:Int)∧j≤t.kids.length∧wr.heap[w0.heap.size]? = some (trO v)∧wr.heap[w0.heap.size+1]? = some (Zjp t.kind t.text l) ∧
 OT wr B0 (w0.heap.size+2) l ((t.kids.take j).map Qh4)∧Below w0.heap.size w0 wr
theorem Zcu {B0:Nat} {t k:Tr} {v y:TV} {w0 wr wk w6:World} {j g cap:Nat} {l:Value} {vs:List TV} {us:List Tr} (hus:us=(t.kids.take j).map Qh4) (hk:t.kids[j]? = some k) (hB:B0≤w0.heap.size)
  (h0:wr.heap[w0.heap.size]? = some (trO v)) (h1:wr.heap[w0.heap.size+1]? = some (Zjp t.kind t.text l)) (hb:Below w0.heap.size w0 wr) (hbk:Below wr.heap.size wr wk) (hlen:vs.length=us.length)
  (hrow:wk.ownsRow (w0.heap.size+2) 25 4 l us.length (Qag vs))
  (h3:∀ (i:Nat) (k:Tr) (u:TV),us[i]? = some k→vs[i]? = some u→TrAt (fun b=>(b<B0∨w0.heap.size+2≤b)∧b<wk.heap.size∧l.ownBlock≠some b) wk k u)
  (hy:TrAt (fun b=>(b<B0∨w0.heap.size+2≤b)∧b<wk.heap.size∧l.ownBlock≠some b) wk (Qh4 k) y)
  (ho:w6.ownsRow (w0.heap.size+2) 25 4 (.slice (some ⟨g,0,none⟩) (us.length+1) cap) (us.length+1) (Qag vs ++ y.cells)) (hkp:Keeps (pre l (us.length*4)) wk w6) (hg:l.ownBlock=some g∨wk.heap.size≤g) :
  InL B0 t v w0 (.int .i64 ((j+1:Nat):Int)) (w6.setCell ⟨w0.heap.size+1,3,none⟩ (.slice (some ⟨g,0,none⟩) (us.length+1) cap)):=by
 have hlo:∀ b,b<w0.heap.size+2→l.ownBlock≠some b:=fun b hl e=>by have:=(World.ownsRow.lt hrow b e).1;omega
 have hlt:=(xP.1 hk).1
 have hw:∀ b,b<w0.heap.size+2→b<wr.heap.size→w6.heap[b]? = wr.heap[b]?:=fun b h hl=>(hkp.block b (xE hl hbk.size) (Qc2 (hlo b h))).trans (hbk.block b hl)
 have hst:=OT.snoc (k:=Qh4 k) hlen hrow h3 hy ho hkp hg
 have hb6:Below w0.heap.size w0 w6:=hb.trans ((hbk.mono hb.size).trans (hkp.below (xQ hb.size hbk.size) fun b hl=>Qc2 (hlo b (by omega))))
 refine ⟨j+1,.slice (some ⟨g,0,none⟩) (us.length+1) cap,rfl,by omega,(Qau (by omega)).trans ((hw _ (by omega) (Qaa h0)).trans h0),Qa2 ((hw _ (by omega) (Qaa h1)).trans h1) rfl,?_,hb6.setCell (p:=⟨w0.heap.size+1,3,none⟩) (by show w0.heap.size≤w0.heap.size+1;omega) _⟩
 rw [Qvi Qh4 _ _ _ hk,←hus]
 exact hst.keep (by simp [World.setCell]) fun b hl h=>Qau (by omega)
theorem Zgi {ps:List Tr} {t:Tr} {w wr wi wk w6:World} {j g cap c:Nat} {q:Value} {A:Option Addr} {vs:List TV} {ts us:List Tr} (hts:ts=(ps.take j).map Qqp) (hus:us=t.kids.map Qh4) (ht:ps[j]? = some t) (hb:Below w.heap.size w wr) (hbi:Below wr.heap.size wr wi) (hbk:Below wi.heap.size wi wk)
  (hlen:vs.length=ts.length) (hrow:wk.ownsRow w.heap.size 25 4 q ts.length (Qag vs)) (hq:∀ b,q.ownBlock=some b→b<wr.heap.size)
  (h3:∀ (i:Nat) (k:Tr) (u:TV),ts[i]? = some k→vs[i]? = some u→TrAt (fun b=>(b<w.heap.size∨w.heap.size≤b)∧b<wk.heap.size∧q.ownBlock≠some b) wk k u)
  (hot:OT wi w.heap.size (wr.heap.size+2) (.slice A us.length c) us)
  (ho:w6.ownsRow w.heap.size 25 4 (.slice (some ⟨g,0,none⟩) (ts.length+1) cap) (ts.length+1) (Qag vs ++ TV.cells ⟨t.kind,t.text,none,0,0,A,us.length,c⟩)) (hkp:Keeps (pre q (ts.length*4)) wk w6) (hg:q.ownBlock=some g∨wk.heap.size≤g) :
  OutL ps w (.slice (some ⟨g,0,none⟩) (ts.length+1) cap) (.int .i64 ((j+1:Nat):Int)) w6:=by
 subst hus
 have hlt:=(xP.1 ht).1
 have hlo:∀ b,b<w.heap.size→q.ownBlock≠some b:=fun b hl e=>by have:=(World.ownsRow.lt hrow b e).1;omega
 have hotk:=hot.below hbk
 have hy:TrAt (fun b=>(b<w.heap.size∨w.heap.size≤b)∧b<wk.heap.size∧q.ownBlock≠some b) wk (Qqp t) ⟨t.kind,t.text,none,0,0,A,(t.kids.map Qh4).length,c⟩:=by
  refine hotk.node t.kind t.text fun b hb' hl=>⟨by omega,hl,fun e=>?_⟩
  have h1:=hq b e
  have h2:=(World.ownsRow.lt hrow b e).1
  omega
 have hst:=OT.snoc (k:=Qqp t) hlen hrow h3 hy ho hkp hg
 refine ⟨j+1,rfl,by omega,?_,hb.trans ((hbi.mono hb.size).trans ((hbk.mono (xQ hb.size hbi.size)).trans (hkp.below (xQ (xQ hb.size hbi.size) hbk.size) fun b hl=>Qc2 (hlo b hl))))⟩
 rw [Qvi Qqp _ _ _ ht,←hts]
 exact hst
abbrev Zcv:Obj:=.cells #[.int .i64 5,.string ⟨#[]⟩,.slice none 0 0,.slice none 0 0,.int .i64 15,.string ⟨#[]⟩,.slice none 0 0,.slice none 0 0] 25
abbrev Zhh (u:TV):Obj:=.cells #[.int .i64 u.kind,.string u.text,.slice u.la u.ll u.lc,.slice u.ka u.kl u.kc] 25
abbrev Zgj (k:Int) (x:ByteArray) (g n:Nat):Obj:=.cells #[.int .i64 k,.string x,.slice none 0 0,.slice (some ⟨g,0,none⟩) n n] 25
theorem Zgk {w:World} {k:Tr} {g:Nat} {S:Nat→Prop} (h3:k.kind≠3) (hg:w.heap[g]? = some Zcv) (hS:S g):TrAt S w (Qh4 k) ⟨k.kind,k.text,none,0,0,some ⟨g,0,none⟩,2,2⟩:=by
 unfold Qh4
 rw [xN h3]
 refine Qt8 (us:=[⟨5,⟨#[]⟩,none,0,0,none,0,0⟩,⟨15,⟨#[]⟩,none,0,0,none,0,0⟩]) k.kind k.text rfl (fun i a u ha hu=>?_) hg hS 2 rfl
 match i,ha,hu with
 | 0,ha,hu =>
  injection ha with ha
  injection hu with hu
  subst ha hu
  exact Qju _ _ _ _
 | 1,ha,hu =>
  injection ha with ha
  injection hu with hu
  subst ha hu
  exact Qju _ _ _ _
 | i+2,ha,_=>simp at ha
theorem Zcw {w:World} {k a:Tr} {u:TV} {g:Nat} {S:Nat→Prop} (h3:k.kind=3) (hk:k.kids = [a]) (hu:TrAt S w (Qb2 a) u) (hg:w.heap[g]? = some (Zhh u)) (hS:S g):TrAt S w (Qh4 k) ⟨k.kind,k.text,none,0,0,some ⟨g,0,none⟩,1,1⟩:=by
 unfold Qh4
 rw [xO h3,hk]
 refine Qt8 (us:=[u]) k.kind k.text rfl (fun i b v ha hv=>?_) hg hS 1 rfl
 match i,ha,hv with
 | 0,ha,hv =>
  injection ha with ha
  injection hv with hv
  subst ha hv
  exact hu
 | i+1,ha,_=>simp at ha
theorem Qjw {wr w5:World} (hb:Below wr.heap.size wr w5) (a b c:Obj):Below wr.heap.size wr (((w5.alloc a).alloc b).alloc c) :=
 ((hb.alloc hb.size a).alloc (by rw [xI];have:=hb.size;omega) b).alloc (by rw [xI,xI];have:=hb.size;omega) c
theorem Qno (w5:World) (a b c:Obj):(((w5.alloc a).alloc b).alloc c).heap[w5.heap.size+1]? = some b:=((Qc3 ((w5.alloc a).alloc b) c).block _ (by rw [xI,xI];omega)).trans (Qet w5 a b).2
theorem Qi6 (w5:World) (a b c:Obj):(((w5.alloc a).alloc b).alloc c).heap.size=w5.heap.size+3:=by rw [xI,xI,xI]
theorem Qyb (w5:World) (a b:Obj) (k:Int) (x:ByteArray):∀ (q:Nat) (z:Value),(TV.cells ⟨k,x,none,0,0,some ⟨w5.heap.size+1,0,none⟩,1,1⟩)[q]? = some z→(((w5.alloc a).alloc b).alloc (Zgj k x (w5.heap.size+1) 1)).cell? ((⟨w5.heap.size+2,0,none⟩:Addr).add q)=some z:=by
 have h:=xM (xH ((w5.alloc a).alloc b) (Zgj k x (w5.heap.size+1) 1))
 rw [xI,xI] at h
 exact h
theorem Zcx {wr w5:World} {a b:Obj} (h:Below ((wr.alloc a).alloc b).heap.size ((wr.alloc a).alloc b) w5):w5.heap[wr.heap.size]? = some a:=(h.block _ (by rw [xI,xI];omega)).trans (Qet wr a b).1
theorem Zk2 {B0:Nat} {w0 wr:World} {k:Tr} {l:Value} (o1 c:Obj) (h3:k.kind≠3) (hl:w0.heap.size+1<wr.heap.size) (hown:∀ b,l.ownBlock=some b→b<wr.heap.size) :
  TrAt (fun b=>(b<B0∨w0.heap.size+2≤b)∧b<(((wr.alloc o1).alloc Zcv).alloc c).heap.size∧l.ownBlock≠some b) (((wr.alloc o1).alloc Zcv).alloc c) (Qh4 k) ⟨k.kind,k.text,none,0,0,some ⟨wr.heap.size+1,0,none⟩,2,2⟩ :=
 Zgk h3 (Qno wr o1 Zcv c) ⟨.inr (by omega),by rw [Qi6];omega,fun e=>by have:=hown _ e;omega⟩
theorem Zjq {B0:Nat} {w0 wr w5:World} {k a:Tr} {y:TV} {l:Value} (o1 c:Obj) (h3:k.kind=3) (hk:k.kids = [a]) (hB:B0≤w0.heap.size) (hl:w0.heap.size+1<wr.heap.size) (hown:∀ b,l.ownBlock=some b→w0.heap.size+2≤b∧b<wr.heap.size) (hb:Below wr.heap.size wr w5)
  (hy:TrAt (fun b=>b<B0) w5 (Qb2 a) y) :
  TrAt (fun b=>(b<B0∨w0.heap.size+2≤b)∧b<(((w5.alloc o1).alloc (Zhh y)).alloc c).heap.size∧l.ownBlock≠some b) (((w5.alloc o1).alloc (Zhh y)).alloc c) (Qh4 k) ⟨k.kind,k.text,none,0,0,some ⟨w5.heap.size+1,0,none⟩,1,1⟩:=by
 have hs:=hb.size
 refine Zcw h3 hk (TrAt.move (fun b hb'=>⟨.inl hb',by rw [Qi6];omega,fun e=>by have:=hown _ e;omega⟩) (fun b _ hlt=>(Qjw (xC w5.heap.size w5) o1 (Zhh y) c).block b hlt) _ _ hy) (Qno w5 o1 (Zhh y) c) ⟨.inr (by omega),by rw [Qi6];omega,fun e=>by have:=hown _ e;omega⟩
theorem Zcy {ps:List Tr} {m d:Nat} {t k:Tr} (hz:∀ t∈ps,Qah t≤1000) (hg:Qc1 ps=true) (ht:ps[m]? = some t) (hk:t.kids[d]? = some k):Qaz k=true∧Qah k≤1000:=by
 obtain ⟨_,q2⟩:=Qgf hg ht
 have hzt:=hz t (yA ht)
 rw [←Qcw _ t (xA _) hzt] at q2
 exact ⟨((Qgp q2).2.2 d k hk).2,by have:=Qbb hk;omega⟩
theorem Qho {w w':World} {B:Nat} {e:TypeId} {size n:Nat} {v:Value} {xs:List Value} (h:w.ownsRow B e size v n xs) (hb:Below w.heap.size w w'):w'.ownsRow B e size v n xs:=(Keeps.of_below (P:=fun _=>none) hb).row h fun _ _=>.inl rfl
theorem Qsc {w0 wr wk w6:World} {l:Value} {n:Nat} {xs:List Value} {o:Obj} (hrow:wk.ownsRow (w0.heap.size+2) 25 4 l n xs) (hk:Keeps (pre l (n*4)) wk w6) (hb:Below wr.heap.size wr wk) (h:wr.heap[w0.heap.size+1]? = some o):w6.heap[w0.heap.size+1]? = some o:=by
 have hl:=Qaa h
 exact (hk.block _ (xE hl hb.size) (Qc2 fun e=>by have:=(World.ownsRow.lt hrow _ e).1;omega)).trans ((hb.block _ hl).trans h)
theorem Qug (S:Nat→Prop) (A:Option Addr) (c:Nat) (ps:List Tr) (w:World) (hp:TrAt S w (Qbp ps) ⟨0,⟨#[]⟩,none,0,0,A,ps.length,c⟩) (hg:Qc1 ps=true) (hz:∀ t∈ps,Qah t≤1000) (hl:ps.length≤90000) :
  Calls Tryz.prog 54 #[.slice A ps.length c] w fun e w'=>∃ A' c',e = .returned (.slice A' ps.length c')∧OT w' w.heap.size w.heap.size (.slice A' ps.length c') (Qh5 ps)∧Below w.heap.size w w':=by
 obtain ⟨it,hit,ht0,ht1,ht2⟩:=info_parts Qct
 have HP:=hQ (TrAt.low _ _ hp)
 have HG:=hQ hg
 have HZ:=hQ hz
 have HMB:=hQ (show it.bytes*ps.length≤281474976710656 from by rw [ht2];omega)
 have HMM:=hQ (show ps.length≤maxLen from by unfold maxLen;omega)
 clear hp hg hz
 go_enter Tryz.func54,Tryz.ntmps54
 go_wp2_with (refine wpList_make_own _ rfl _ _ 22 rfl w.heap.size 25 it _ 4 Tryz.underlying22 hit ht0 ht1 .i64 .i64 _ ps.length rfl rfl rfl HMB.out HMM.out (xA _) ?_;intro w1 hown1 hg1;have HO1:=hQ hown1;have HB1:=hQ (Qmw hg1);clear hown1 hg1)
 go_loopw [3,17] (fun q i wr=>OutL ps w q i wr) (fun _ i _=>ps.length-(intOf i).toNat)
 case atStart=>exact ⟨0,rfl,xZ _,OT.empty HO1.out,HB1.out⟩
 case round =>
  obtain ⟨j,rfl,hj,hot,hb⟩:=hrel
  have HBR:=hQ hb
  obtain ⟨w0,hw0⟩:∃ w',w'=wr:=⟨_,rfl⟩
  subst hw0
  obtain ⟨ts,hts⟩:∃ ts,ts=(ps.take j).map Qqp:=⟨_,rfl⟩
  rw [←hts] at hot
  have HTS:=hQ hts
  clear hts
  obtain ⟨QA,qc,hq⟩:=hot.slice
  subst hq
  have HOT:=hQ hot
  clear hot hb
  by_cases hlt:j<ps.length
  ·obtain ⟨t,ht⟩:∃ t,ps[j]? = some t:=⟨_,xF hlt⟩
   obtain ⟨b,off,hka⟩:∃ b off,A=some ⟨b,off,none⟩:=HP.out.addr.resolve_left (by show ¬ ps.length=0;omega)
   subst hka
   obtain ⟨u,c0,c1,c2,c3,hu⟩:=(HP.out.keep HBR.out).at rfl (show (Qbp ps).kids[j]? = some t from ht)
   have HU:=hQ hu
   have HT:=hQ ht
   obtain ⟨u1,u2,u3,u4⟩:=hu.kl
   obtain ⟨uk,ux,ula,ull,ulc,uka,ukl,ukc⟩:=u
   simp only at u1 u2 u3 u4
   subst u1 u2 u3 u4
   have cl:=xK w0 _ c0
   have hk0:(0:Int)≤(j:Int):=by omega
   have hk1:(j:Int)<(ps.length:Int):=by omega
   have HK2:=hQ (show (j:Int)+1≤90001 by omega)
   have hkl:t.kids.length≤1000:=by have h1:=HZ.out t (yA ht);have h2:=Qa0 t.kids;have h3:=Qa3 t;omega
   obtain ⟨bx0,bx1⟩:=Qet w0 (trO ⟨t.kind,t.text,ula,t.leads.length,ulc,uka,t.kids.length,ukc⟩) (Zjp t.kind t.text (.slice none 0 0))
   have BX0:=hQ bx0
   have BX1:=hQ bx1
   have BXB:=hQ (Qfx w0 (trO ⟨t.kind,t.text,ula,t.leads.length,ulc,uka,t.kids.length,ukc⟩) (Zjp t.kind t.text (.slice none 0 0)))
   clear bx0 bx1 hu ht
   go_wp2
   go_loopw [29] (fun i wr=>InL w.heap.size t ⟨t.kind,t.text,ula,t.leads.length,ulc,uka,t.kids.length,ukc⟩ w0 i wr) (fun i _=>t.kids.length-(intOf i).toNat)
   case atStart=>exact ⟨0,.slice none 0 0,rfl,xZ _,BX0.out,BX1.out,OT.nil _ _ _,BXB.out⟩
   case round =>
    obtain ⟨d,l,rfl,hd,h0,h1,hin,hbi⟩:=hrel
    obtain ⟨us,hus⟩:∃ us,us=(t.kids.take d).map Qh4:=⟨_,rfl⟩
    rw [←hus] at hin
    have HUS:=hQ hus
    clear hus
    obtain ⟨MA,mc,hm⟩:=hin.slice
    subst hm
    have H0:=hQ h0
    have H1:=hQ h1
    have HIN:=hQ hin
    have HBI:=hQ hbi
    have m3:wr.cell? ⟨w0.heap.size+1,3,none⟩=some _:=Qab h1 3 _ rfl
    have mbl:=Qaa h1
    have mfr:=xL h1
    have k3:=Qab h0 3 _ rfl
    have k0:=Qab h0 0 _ rfl
    have k1:=Qab h0 1 _ rfl
    have tbl:=Qaa h0
    clear hin hbi h0 h1
    by_cases hdl:d<t.kids.length
    ·obtain ⟨k,hk⟩:∃ k,t.kids[d]? = some k:=⟨_,xF hdl⟩
     obtain ⟨kb,ko,hua⟩:∃ b off,uka=some ⟨b,off,none⟩:=HU.out.addr.resolve_left (by omega)
     subst hua
     have HWR:=hQ (HBR.out.trans (HBI.out.mono HBR.out.size))
     obtain ⟨v,e0,e1,e2,e3,hv⟩:=(HU.out.keep (HBI.out.mono (xA _))).at rfl hk
     obtain ⟨v1,v2,v3,v4⟩:=hv.kl
     have HV:=hQ hv
     have HK:=hQ hk
     have HOK:=hQ (Zcy HZ.out HG.out HT.out hk)
     have el:=xK wr _ e0
     have hd0:(0:Int)≤(d:Int):=by omega
     have hd1:(d:Int)<(t.kids.length:Int):=by omega
     have hd2:(d:Int)+1≤1001:=by omega
     obtain ⟨vs,hlen,hrow,hts⟩:=HIN.out
     have HLEN:=hQ hlen
     have HROW:=hQ hrow
     have HTR:=hQ hts
     have hul:us.length=d:=by rw [HUS.out,List.length_map,List.length_take];omega
     have HM1:=hQ (show us.length+1≤maxLen from by unfold maxLen;omega)
     have HM2:=hQ (show (us.length+1)*72≤140737488355328 from by omega)
     have HJ:=hQ hul
     clear hlen hrow hts hul hv hk
     obtain ⟨dk,dx,dla,dll,dlc,dka,dkl,dkc⟩:=v
     simp only at v1 v2 v3 v4
     subst v1 v2 v3 v4
     by_cases h3:k.kind=3
     ·have q3:(k.kind==3)=true:=by simp [h3]
      obtain ⟨a,ha,ha1,ha2⟩:=Qna HOK.out.1 h3
      have HA:=hQ ha
      have haj:k.kids[0]? = some a:=by rw [ha];rfl
      have hkl1:k.kids.length=1:=by rw [ha];rfl
      obtain ⟨ab,ao,hdka⟩:∃ b off,dka=some ⟨b,off,none⟩:=HV.out.addr.resolve_left (by omega)
      subst hdka
      obtain ⟨x,f0,f1,f2,f3,hx⟩:=HV.out.at rfl haj
      simp only [Nat.zero_mul,Nat.add_zero] at f0 f1 f2 f3
      have fl:=xK wr _ f0
      have HW2:=hQ (Qfx wr (trO ⟨k.kind,k.text,dla,k.leads.length,dlc,some ⟨ab,ao,none⟩,k.kids.length,dkc⟩) Zcv)
      have DX0:=hQ (Qet wr (trO ⟨k.kind,k.text,dla,k.leads.length,dlc,some ⟨ab,ao,none⟩,k.kids.length,dkc⟩) Zcv).1
      have HC:=hQ (Qve _ (fun b=>b<w.heap.size) a x _ (xA _) (fun b hb=>xE hb (xQ HWR.out.size HW2.out.size)) (hx.keep HW2.out) ha2 ha1 (by have:=Qbb haj;have:=HOK.out.2;omega))
      have H3:=hQ h3
      have hi0:(0:Int)<(k.kids.length:Int):=by omega
      clear ha ha1 ha2 haj hx h3 hkl1
      go_wp2_with (first
       | (go_at_call 84;refine HC.out.mono ?_;rintro e w5 ⟨y,rfl,hy,hb5⟩;have HY:=hQ hy;have HB5:=hQ (HW2.out.trans (hb5.mono HW2.out.size));have g1:=(HB5.out.block (w0.heap.size+1) mbl).trans H1.out;have g0:=Zcx hb5;clear hy hb5 m3 mbl mfr e0 e1 e2 e3 f0 f1 f2 f3;have m3:w5.cell? ⟨w0.heap.size+1,3,none⟩=some _:=Qab g1 3 _ rfl;have mbl:=Qaa g1;have mfr:=xL g1;have e0:w5.cell? ⟨wr.heap.size,0,none⟩=some (.int .i64 k.kind):=Qab g0 0 _ rfl;have e1:w5.cell? ⟨wr.heap.size,1,none⟩=some (.string k.text):=Qab g0 1 _ rfl;have dbl:=Qaa g0;have mb2:=Nat.lt_of_succ_lt mbl;have mb3:=Nat.lt_succ_of_lt mb2;clear g0 g1;have HWK:=hQ (Qjw HB5.out (trO y) (Zhh y) (Zgj k.kind k.text (w5.heap.size+1) 1));have HRW:=hQ (Qho HROW.out HWK.out);have HNW:=hQ (Qyb w5 (trO y) (Zhh y) k.kind k.text);have HSZ:=hQ (show w0.heap.size+2≤(((w5.alloc (trO y)).alloc (Zhh y)).alloc (Zgj k.kind k.text (w5.heap.size+1) 1)).heap.size from by rw [Qi6];have:=HB5.out.size;omega))
       | (at_builtin;refine Qfn _ rfl _ _ 22 rfl (w0.heap.size+2) 25 it _ 4 72 Tryz.underlying22 hit ht0 ht1 ht2 rfl (by decide) _ us.length (Qag vs) rfl HRW.out ⟨w5.heap.size+2,0,none⟩ 1 1 (TV.cells ⟨k.kind,k.text,none,0,0,some ⟨w5.heap.size+1,0,none⟩,1,1⟩) rfl rfl HNW.out (Qg2 _) (by decide) HM1.out HM2.out HSZ.out ?_;intro g6 c6 w6 hown6 hk6 hg6 hlt6;have HO6:=hQ hown6;have HK6:=hQ hk6;have HG6:=hQ hg6;have x1:=Qsc HRW.out HK6.out HWK.out H1.out;clear hown6 hk6 hg6 hlt6 m3 mbl mfr;have m3:w6.cell? ⟨w0.heap.size+1,3,none⟩=some _:=Qab x1 3 _ rfl;have mbl:=Qaa x1;have mfr:=xL x1;clear x1))
      go_roundw
      case measure=>first | (simp [intOf];done) | (simp [intOf];omega)
      case rel=>exact Zcu HUS.out HK.out HBR.out.size H0.out H1.out HBI.out HWK.out HLEN.out HRW.out (fun i k u hk hu=>TrAt.move (fun b hb=>⟨hb.1,xE hb.2.1 HWK.out.size,hb.2.2⟩) (fun b _ hl=>HWK.out.block b hl) _ _ (HTR.out i k u hk hu)) (Zjq _ _ H3.out HA.out HBR.out.size (Qaa H1.out) HIN.out.lt HB5.out HY.out) HO6.out HK6.out HG6.out
     ·have q3:=Qck h3
      have HOT3:=hQ (Qfx wr (trO ⟨k.kind,k.text,dla,k.leads.length,dlc,dka,k.kids.length,dkc⟩) Zcv)
      have HWK:=hQ (HOT3.out.alloc HOT3.out.size (Zgj k.kind k.text (wr.heap.size+1) 2))
      have HRW:=hQ (show ((((wr.alloc (trO ⟨k.kind,k.text,dla,k.leads.length,dlc,dka,k.kids.length,dkc⟩)).alloc Zcv).alloc (Zgj k.kind k.text (wr.heap.size+1) 2)).ownsRow (w0.heap.size+2) 25 4 (.slice MA us.length mc) us.length (Qag vs)) from Qho HROW.out HWK.out)
      have HNW:=hQ (show ∀ (q:Nat) (x:Value),(TV.cells ⟨k.kind,k.text,none,0,0,some ⟨wr.heap.size+1,0,none⟩,2,2⟩)[q]? = some x→(((wr.alloc (trO ⟨k.kind,k.text,dla,k.leads.length,dlc,dka,k.kids.length,dkc⟩)).alloc Zcv).alloc (Zgj k.kind k.text (wr.heap.size+1) 2)).cell? ((⟨wr.heap.size+2,0,none⟩:Addr).add q)=some x from by
       have h:=xM (xH ((wr.alloc (trO ⟨k.kind,k.text,dla,k.leads.length,dlc,dka,k.kids.length,dkc⟩)).alloc Zcv) (Zgj k.kind k.text (wr.heap.size+1) 2))
       rw [xI,xI] at h
       exact h)
      have HSZ:=hQ (show w0.heap.size+2≤(((wr.alloc (trO ⟨k.kind,k.text,dla,k.leads.length,dlc,dka,k.kids.length,dkc⟩)).alloc Zcv).alloc (Zgj k.kind k.text (wr.heap.size+1) 2)).heap.size from by rw [xI,xI,xI];omega)
      have H3:=hQ h3
      clear h3
      go_wp2_with (at_builtin;refine Qfn _ rfl _ _ 22 rfl (w0.heap.size+2) 25 it _ 4 72 Tryz.underlying22 hit ht0 ht1 ht2 rfl (by decide) _ us.length (Qag vs) rfl HRW.out ⟨wr.heap.size+2,0,none⟩ 1 1 (TV.cells ⟨k.kind,k.text,none,0,0,some ⟨wr.heap.size+1,0,none⟩,2,2⟩) rfl rfl HNW.out (Qg2 _) (by decide) HM1.out HM2.out HSZ.out ?_;intro g6 c6 w6 hown6 hk6 hg6 hlt6;have HO6:=hQ hown6;have HK6:=hQ hk6;have HG6:=hQ hg6;have x1:=Qsc HRW.out HK6.out HWK.out H1.out;clear hown6 hk6 hg6 hlt6 m3 mbl mfr;have m3:w6.cell? ⟨w0.heap.size+1,3,none⟩=some _:=Qab x1 3 _ rfl;have mbl:=Qaa x1;have mfr:=xL x1;clear x1)
      go_roundw
      case measure=>first | (simp [intOf];done) | (simp [intOf];omega)
      case rel=>exact Zcu HUS.out HK.out HBR.out.size H0.out H1.out HBI.out HWK.out HLEN.out HRW.out (fun i k u hk hu=>TrAt.move (fun b hb=>⟨hb.1,xE hb.2.1 HWK.out.size,hb.2.2⟩) (fun b _ hl=>HWK.out.block b hl) _ _ (HTR.out i k u hk hu)) (Zk2 _ _ H3.out (Qaa H1.out) (fun b hb=>(HIN.out.lt b hb).2)) HO6.out HK6.out HG6.out
    ·obtain rfl:d=t.kids.length:=by omega
     have HW3:=hQ (show t.kids.take t.kids.length=t.kids from List.take_length)
     have HUS2:=hQ (show us=t.kids.map Qh4 from HUS.out.trans (by rw [HW3.out]))
     have hk2:=HK2.out
     obtain ⟨vs,hlen,hrow,htt⟩:=HOT.out
     have HLEN:=hQ hlen
     have HWK:=hQ (show Below w0.heap.size w0 (wr.alloc (Zjp t.kind t.text (.slice MA us.length mc))) from HBI.out.alloc HBI.out.size _)
     have HRW:=hQ (Qho hrow HWK.out)
     have HTR:=hQ htt
     have hul:ts.length=j:=by rw [HTS.out,List.length_map,List.length_take];omega
     have HM1:=hQ (show ts.length+1≤maxLen from by unfold maxLen;omega)
     have HM2:=hQ (show (ts.length+1)*72≤140737488355328 from by omega)
     have HNW:=hQ (xM (xH wr (Zjp t.kind t.text (.slice MA us.length mc))))
     have HSZ:=hQ (show w.heap.size≤(wr.alloc (Zjp t.kind t.text (.slice MA us.length mc))).heap.size from xQ HBR.out.size HWK.out.size)
     have m0:wr.cell? ⟨w0.heap.size+1,0,none⟩=some _:=Qab H1.out 0 _ rfl
     have m1:wr.cell? ⟨w0.heap.size+1,1,none⟩=some _:=Qab H1.out 1 _ rfl
     have m2:wr.cell? ⟨w0.heap.size+1,2,none⟩=some _:=Qab H1.out 2 _ rfl
     clear hlen hrow htt hul
     go_wp2_with (at_builtin;refine Qfn _ rfl _ _ 22 rfl w.heap.size 25 it _ 4 72 Tryz.underlying22 hit ht0 ht1 ht2 rfl (by decide) _ ts.length (Qag vs) rfl HRW.out ⟨wr.heap.size,0,none⟩ 1 1 (TV.cells ⟨t.kind,t.text,none,0,0,MA,us.length,mc⟩) rfl rfl HNW.out (Qg2 _) (by decide) HM1.out HM2.out HSZ.out ?_;intro g6 c6 w6 hown6 hk6 hg6 hlt6;have HO6:=hQ hown6;have HK6:=hQ hk6;have HG6:=hQ hg6;clear hown6 hk6 hg6 hlt6)
     go_roundw
     case measure=>first | (simp [intOf];done) | (simp [intOf];omega)
     case rel=>exact Zgi HTS.out HUS2.out HT.out HBR.out HBI.out (Qc3 wr _) HLEN.out HRW.out (fun b hb=>(HOT.out.lt b hb).2) (fun i k u hk hu=>TrAt.move (fun b hb=>⟨hb.1,xE hb.2.1 HWK.out.size,hb.2.2⟩) (fun b _ hl=>HWK.out.block b hl) _ _ (HTR.out i k u hk hu)) HIN.out HO6.out HK6.out HG6.out
  ·obtain rfl:j=ps.length:=by omega
   have HW3:=hQ (show ps.take ps.length=ps from List.take_length)
   have hl3:ts.length=ps.length:=by rw [HTS.out,HW3.out,List.length_map]
   have HE:=hQ (show ts=Qh5 ps from HTS.out.trans (by rw [HW3.out];rfl))
   have HL3:=hQ hl3
   clear hl3
   go_wp2
   go_ret
   refine ⟨QA,qc,by rw [HL3.out];first | rfl | simp,?_,HBR.out⟩
   have h:=HOT.out
   rw [HE.out,show (Qh5 ps).length=ps.length from by rw [←HE.out];exact HL3.out] at h
   exact h
end Go.Proofs.YtclkilljmdkfaaaGreat
