/- Part 30 -/
import Derived.Test.YtfjpemdejoejbaaGreatTp29
set_option maxRecDepth 100000
set_option maxHeartbeats 4000000
namespace Go.Proofs.YtfjpemdejoejbaaGreat
open Go.Proofs.Tryz Go.RowKit Go.Shelf
def Znv(ps:List Tr)(w:World)(q i:Value)(wr:World):Prop:=∃ j:Nat,i = .int .i64 (j:Int)/\j<=ps.length/\OT wr w.heap.size w.heap.size q ((ps.take j).map Qq7)/\Below w.heap.size w wr
abbrev Zkq(k:Int)(x:yD)(l:Value):Obj:=.cells #[.int .i64 k,.string x,.slice none 0 0,l] 25
def InL(B0:Nat)(t:Tr)(v:TV)(w0:World)(i:Value)(wr:World):Prop:=∃ (j:Nat) (l:Value),i = .int .i64 (j:Int)/\j<=t.kids.length/\wr.heap[w0.heap.size]? = some (trO v)/\wr.heap[w0.heap.size+1]? = some (Zkq t.kind t.text l) /\
 OT wr B0 (w0.heap.size+2) l ((t.kids.take j).map Qif)/\Below w0.heap.size w0 wr
theorem Zdj{B0:Nat}{t k:Tr}{v y:TV}{w0 wr wk w6:World}{j g cap:Nat}{l:Value}{vs:List TV}{us:List Tr}(hus:us=(t.kids.take j).map Qif)(hk:t.kids[j]? = some k)(hB:B0<=w0.heap.size)
  (h0:wr.heap[w0.heap.size]? = some (trO v)) (h1:wr.heap[w0.heap.size+1]? = some (Zkq t.kind t.text l)) (hb:Below w0.heap.size w0 wr) (hbk:Below wr.heap.size wr wk) (hlen:vs.length=us.length)
  (hrow:wk.ownsRow (w0.heap.size+2) 25 4 l us.length (Qag vs))
  (h3:∀ (i:Nat) (k:Tr) (u:TV),us[i]? = some k->vs[i]? = some u->TrAt (fun b=>(b<B0\/w0.heap.size+2<=b)/\b<wk.heap.size/\l.ownBlock≠some b) wk k u)
  (hy:TrAt (fun b=>(b<B0\/w0.heap.size+2<=b)/\b<wk.heap.size/\l.ownBlock≠some b) wk (Qif k) y)
  (ho:w6.ownsRow (w0.heap.size+2) 25 4 (.slice (some ⟨g,0,none⟩) (us.length+1) cap) (us.length+1) (Qag vs ++ y.cells)) (hkp:Keeps (pre l (us.length*4)) wk w6) (hg:l.ownBlock=some g\/wk.heap.size<=g) :
  InL B0 t v w0 (.int .i64 ((j+1:Nat):Int)) (w6.setCell ⟨w0.heap.size+1,3,none⟩ (.slice (some ⟨g,0,none⟩) (us.length+1) cap)):=by
 have hlo:∀ b,b<w0.heap.size+2->l.ownBlock≠some b:=fun b hl e=>by have:=(World.ownsRow.lt hrow b e).1;omega
 have hlt:=(xP.1 hk).1;have hw:∀ b,b<w0.heap.size+2->b<wr.heap.size->w6.heap[b]? = wr.heap[b]?:=fun b h hl=>(hkp.block b (xE hl hbk.size) (Qch (hlo b h))).trans (hbk.block b hl)
 have hst:=OT.snoc (k:=Qif k) hlen hrow h3 hy ho hkp hg;have hb6:Below w0.heap.size w0 w6:=hb.trans ((hbk.mono hb.size).trans (hkp.below (xQ hb.size hbk.size) fun b hl=>Qch (hlo b (by omega))));refine⟨j+1,.slice (some ⟨g,0,none⟩) (us.length+1) cap,rfl,by omega,(Qaq (by omega)).trans ((hw _ (by omega) (Qaa h0)).trans h0),Qa1 ((hw _ (by omega) (Qaa h1)).trans h1) rfl,?_,hb6.setCell (p:=⟨w0.heap.size+1,3,none⟩) (by show w0.heap.size<=w0.heap.size+1;omega) _⟩;rw[Qv5 Qif _ _ _ hk,<-hus];exact hst.keep (by simp[World.setCell]) fun b hl h=>Qaq (by omega)
theorem Zhk{ps:List Tr}{t:Tr}{w wr wi wk w6:World}{j g cap c:Nat}{q:Value}{A:yE}{vs:List TV}{ts us:List Tr}(hts:ts=(ps.take j).map Qq7)(hus:us=t.kids.map Qif)(ht:ps[j]? = some t)(hb:Below w.heap.size w wr)(hbi:Below wr.heap.size wr wi)(hbk:Below wi.heap.size wi wk)
  (hlen:vs.length=ts.length) (hrow:wk.ownsRow w.heap.size 25 4 q ts.length (Qag vs)) (hq:∀ b,q.ownBlock=some b->b<wr.heap.size)
  (h3:∀ (i:Nat) (k:Tr) (u:TV),ts[i]? = some k->vs[i]? = some u->TrAt (fun b=>(b<w.heap.size\/w.heap.size<=b)/\b<wk.heap.size/\q.ownBlock≠some b) wk k u)
  (hot:OT wi w.heap.size (wr.heap.size+2) (.slice A us.length c) us)
  (ho:w6.ownsRow w.heap.size 25 4 (.slice (some ⟨g,0,none⟩) (ts.length+1) cap) (ts.length+1) (Qag vs ++ TV.cells ⟨t.kind,t.text,none,0,0,A,us.length,c⟩)) (hkp:Keeps (pre q (ts.length*4)) wk w6) (hg:q.ownBlock=some g\/wk.heap.size<=g) :
  Znv ps w (.slice (some ⟨g,0,none⟩) (ts.length+1) cap) (.int .i64 ((j+1:Nat):Int)) w6:=by
 subst hus;have hlt:=(xP.1 ht).1;have hlo:∀ b,b<w.heap.size->q.ownBlock≠some b:=fun b hl e=>by have:=(World.ownsRow.lt hrow b e).1;omega
 have hotk:=hot.below hbk
 have hy:TrAt (fun b=>(b<w.heap.size\/w.heap.size<=b)/\b<wk.heap.size/\q.ownBlock≠some b) wk (Qq7 t) ⟨t.kind,t.text,none,0,0,A,(t.kids.map Qif).length,c⟩:=by
  refine hotk.node t.kind t.text fun b hb' hl=>⟨by omega,hl,fun e=>?_⟩
  have h1:=hq b e;have h2:=(World.ownsRow.lt hrow b e).1;omega
 have hst:=OT.snoc (k:=Qq7 t) hlen hrow h3 hy ho hkp hg;refine⟨j+1,rfl,by omega,?_,hb.trans ((hbi.mono hb.size).trans ((hbk.mono (xQ hb.size hbi.size)).trans (hkp.below (xQ (xQ hb.size hbi.size) hbk.size) fun b hl=>Qch (hlo b hl))))⟩;rw[Qv5 Qq7 _ _ _ ht,<-hts];exact hst
abbrev Zdk:Obj:=.cells #[.int .i64 5,.string ⟨#[]⟩,.slice none 0 0,.slice none 0 0,.int .i64 15,.string ⟨#[]⟩,.slice none 0 0,.slice none 0 0] 25
abbrev Zih(u:TV):Obj:=.cells #[.int .i64 u.kind,.string u.text,.slice u.la u.ll u.lc,.slice u.ka u.kl u.kc] 25
abbrev Zhl(k:Int)(x:yD)(g n:Nat):Obj:=.cells #[.int .i64 k,.string x,.slice none 0 0,.slice (some ⟨g,0,none⟩) n n] 25
theorem Zhm{w:World}{k:Tr}{g:Nat}{S:Nat->Prop}(h3:k.kind≠3)(hg:w.heap[g]? = some Zdk)(hS:S g):TrAt S w (Qif k) ⟨k.kind,k.text,none,0,0,some ⟨g,0,none⟩,2,2⟩:=by
 unfold Qif;rw[xN h3];refine Qqs (us:=[⟨5,⟨#[]⟩,none,0,0,none,0,0⟩,⟨15,⟨#[]⟩,none,0,0,none,0,0⟩]) k.kind k.text rfl (fun i a u ha hu=>?_) hg hS 2 rfl
 match i,ha,hu with
 | 0,ha,hu =>
  injection ha with ha;injection hu with hu;subst ha hu;exact Qj2 _ _ _ _
 | 1,ha,hu =>
  injection ha with ha;injection hu with hu;subst ha hu;exact Qj2 _ _ _ _
 | i+2,ha,_=>simp at ha
theorem Zdl{w:World}{k a:Tr}{u:TV}{g:Nat}{S:Nat->Prop}(h3:k.kind=3)(hk:k.kids = [a])(hu:TrAt S w (Qbd a) u)(hg:w.heap[g]? = some (Zih u))(hS:S g):TrAt S w (Qif k) ⟨k.kind,k.text,none,0,0,some ⟨g,0,none⟩,1,1⟩:=by
 unfold Qif;rw[xO h3,hk];refine Qqs (us:=[u]) k.kind k.text rfl (fun i b v ha hv=>?_) hg hS 1 rfl
 match i,ha,hv with
 | 0,ha,hv =>
  injection ha with ha;injection hv with hv;subst ha hv;exact hu
 | i+1,ha,_=>simp at ha
theorem Qgz{wr w5:World}(hb:Below wr.heap.size wr w5)(a b c:Obj):Below wr.heap.size wr (((w5.alloc a).alloc b).alloc c) :=
 ((hb.alloc hb.size a).alloc (by rw[xI];have:=hb.size;omega) b).alloc (by rw[xI,xI];have:=hb.size;omega) c
theorem Qk5(w5:World)(a b c:Obj):(((w5.alloc a).alloc b).alloc c).heap[w5.heap.size+1]? = some b:=((Qcs ((w5.alloc a).alloc b) c).block _ (by rw[xI,xI];omega)).trans (Qdv w5 a b).2
theorem Qhx(w5:World)(a b c:Obj):(((w5.alloc a).alloc b).alloc c).heap.size=w5.heap.size+3:=by rw[xI,xI,xI]
theorem Qyy(w5:World)(a b:Obj)(k:Int)(x:yD):∀ (q:Nat) (z:Value),(TV.cells ⟨k,x,none,0,0,some ⟨w5.heap.size+1,0,none⟩,1,1⟩)[q]? = some z->(((w5.alloc a).alloc b).alloc (Zhl k x (w5.heap.size+1) 1)).cell? ((⟨w5.heap.size+2,0,none⟩:Addr).add q)=some z:=by
 have h:=xM (xH ((w5.alloc a).alloc b) (Zhl k x (w5.heap.size+1) 1));rw[xI,xI]at h;exact h
theorem Zdm{wr w5:World}{a b:Obj}(h:Below ((wr.alloc a).alloc b).heap.size ((wr.alloc a).alloc b) w5):w5.heap[wr.heap.size]? = some a:=(h.block _ (by rw[xI,xI];omega)).trans (Qdv wr a b).1
theorem Zl9{B0:Nat}{w0 wr:World}{k:Tr}{l:Value}(o1 c:Obj)(h3:k.kind≠3)(hl:w0.heap.size+1<wr.heap.size)(hown:∀ b,l.ownBlock=some b->b<wr.heap.size) :
  TrAt (fun b=>(b<B0\/w0.heap.size+2<=b)/\b<(((wr.alloc o1).alloc Zdk).alloc c).heap.size/\l.ownBlock≠some b) (((wr.alloc o1).alloc Zdk).alloc c) (Qif k) ⟨k.kind,k.text,none,0,0,some ⟨wr.heap.size+1,0,none⟩,2,2⟩ :=
 Zhm h3 (Qk5 wr o1 Zdk c) ⟨.inr (by omega),by rw[Qhx];omega,fun e=>by have:=hown _ e;omega⟩
theorem Zkr{B0:Nat}{w0 wr w5:World}{k a:Tr}{y:TV}{l:Value}(o1 c:Obj)(h3:k.kind=3)(hk:k.kids = [a])(hB:B0<=w0.heap.size)(hl:w0.heap.size+1<wr.heap.size)(hown:∀ b,l.ownBlock=some b->w0.heap.size+2<=b/\b<wr.heap.size)(hb:Below wr.heap.size wr w5)
  (hy:TrAt (fun b=>b<B0) w5 (Qbd a) y) :
  TrAt (fun b=>(b<B0\/w0.heap.size+2<=b)/\b<(((w5.alloc o1).alloc (Zih y)).alloc c).heap.size/\l.ownBlock≠some b) (((w5.alloc o1).alloc (Zih y)).alloc c) (Qif k) ⟨k.kind,k.text,none,0,0,some ⟨w5.heap.size+1,0,none⟩,1,1⟩:=by
 have hs:=hb.size;refine Zdl h3 hk (TrAt.move (fun b hb'=>⟨.inl hb',by rw[Qhx];omega,fun e=>by have:=hown _ e;omega⟩) (fun b _ hlt=>(Qgz (xC w5.heap.size w5) o1 (Zih y) c).block b hlt) _ _ hy) (Qk5 w5 o1 (Zih y) c) ⟨.inr (by omega),by rw[Qhx];omega,fun e=>by have:=hown _ e;omega⟩
theorem Zdn{ps:List Tr}{m d:Nat}{t k:Tr}(hz:∀ t∈ps,Qai t<=1000)(hg:Qc1 ps=true)(ht:ps[m]? = some t)(hk:t.kids[d]? = some k):Qa2 k=true/\Qai k<=1000:=by
 obtain⟨_,q2⟩:=Qgo hg ht;have hzt:=hz t (yA ht);rw[<-Qce _ t (xA _) hzt]at q2;exact⟨((Qf5 q2).2.2 d k hk).2,by have:=Qbi hk;omega⟩
theorem Qf8{w w':World}{B:Nat}{e:TypeId}{size n:Nat}{v:Value}{xs:List Value}(h:w.ownsRow B e size v n xs)(hb:Below w.heap.size w w'):w'.ownsRow B e size v n xs:=(Keeps.of_below (P:=fun _=>none) hb).row h fun _ _=>.inl rfl
theorem Qst{w0 wr wk w6:World}{l:Value}{n:Nat}{xs:List Value}{o:Obj}(hrow:wk.ownsRow (w0.heap.size+2) 25 4 l n xs)(hk:Keeps (pre l (n*4)) wk w6)(hb:Below wr.heap.size wr wk)(h:wr.heap[w0.heap.size+1]? = some o):w6.heap[w0.heap.size+1]? = some o:=by
 have hl:=Qaa h;exact(hk.block _ (xE hl hb.size) (Qch fun e=>by have:=(World.ownsRow.lt hrow _ e).1;omega)).trans ((hb.block _ hl).trans h)
theorem Quw(S:Nat->Prop)(A:yE)(c:Nat)(ps:List Tr)(w:World)(hp:TrAt S w (Qa9 ps) ⟨0,⟨#[]⟩,none,0,0,A,ps.length,c⟩)(hg:Qc1 ps=true)(hz:∀ t∈ps,Qai t<=1000)(hl:ps.length<=90000) :
  Calls prog 36 #[.slice A ps.length c] w fun e w'=>∃ A' c',e = .returned (.slice A' ps.length c')/\OT w' w.heap.size w.heap.size (.slice A' ps.length c') (Qig ps)/\Below w.heap.size w w':=by
 obtain⟨it,hit,ht0,ht1,ht2⟩:=info_parts Qcm;have HP:=hQ (TrAt.low _ _ hp);have HG:=hQ hg;have HZ:=hQ hz;have HMB:=hQ (show it.bytes*ps.length<=281474976710656 from by rw[ht2];omega);have HMM:=hQ (show ps.length<=maxLen from by unfold maxLen;omega);clear hp hg hz;go_enter func36,ntmps36;go_wp2_with (refine wpList_make_own _ rfl _ _ 22 rfl w.heap.size 25 it _ 4 underlying22 hit ht0 ht1 .i64 .i64 _ ps.length rfl rfl rfl HMB.out HMM.out (xA _) ?_;intro w1 hown1 hg1;have HO1:=hQ hown1;have HB1:=hQ (Qng hg1);clear hown1 hg1)
 go_loopw [3,17] (fun q i wr=>Znv ps w q i wr) (fun _ i _=>ps.length-(intOf i).toNat)
 case atStart=>exact⟨0,rfl,xZ _,OT.empty HO1.out,HB1.out⟩
 case round =>
  obtain⟨j,rfl,hj,hot,hb⟩:=hrel;have HBR:=hQ hb;obtain⟨w0,hw0⟩:∃ w',w'=wr:=⟨_,rfl⟩;subst hw0;obtain⟨ts,hts⟩:∃ ts,ts=(ps.take j).map Qq7:=⟨_,rfl⟩;rw[<-hts]at hot;have HTS:=hQ hts;clear hts;obtain⟨QA,qc,hq⟩:=hot.slice;subst hq;have HOT:=hQ hot;clear hot hb
  by_cases hlt:j<ps.length
  ·obtain⟨t,ht⟩:∃ t,ps[j]? = some t:=⟨_,xF hlt⟩;obtain⟨b,off,hka⟩:∃ b off,A=some ⟨b,off,none⟩:=HP.out.addr.resolve_left (by show ¬ ps.length=0;omega);subst hka;obtain⟨u,c0,c1,c2,c3,hu⟩:=(HP.out.keep HBR.out).at rfl (show(Qa9 ps).kids[j]? = some t from ht);have HU:=hQ hu;have HT:=hQ ht;obtain⟨u1,u2,u3,u4⟩:=hu.kl;obtain⟨uk,ux,ula,ull,ulc,uka,ukl,ukc⟩:=u;simp only at u1 u2 u3 u4;subst u1 u2 u3 u4;have cl:=xK w0 _ c0;have hk0:(0:Int)<=(j:Int):=by omega
   have hk1:(j:Int)<(ps.length:Int):=by omega
   have HK2:=hQ (show(j:Int)+1<=90001 by omega);have hkl:t.kids.length<=1000:=by have h1:=HZ.out t (yA ht);have h2:=Qa0 t.kids;have h3:=Qa5 t;omega
   obtain⟨bx0,bx1⟩:=Qdv w0 (trO ⟨t.kind,t.text,ula,t.leads.length,ulc,uka,t.kids.length,ukc⟩) (Zkq t.kind t.text (.slice none 0 0));have BX0:=hQ bx0;have BX1:=hQ bx1;have BXB:=hQ (Qe0 w0 (trO ⟨t.kind,t.text,ula,t.leads.length,ulc,uka,t.kids.length,ukc⟩) (Zkq t.kind t.text (.slice none 0 0)));clear bx0 bx1 hu ht;go_wp2
   go_loopw [29] (fun i wr=>InL w.heap.size t ⟨t.kind,t.text,ula,t.leads.length,ulc,uka,t.kids.length,ukc⟩ w0 i wr) (fun i _=>t.kids.length-(intOf i).toNat)
   case atStart=>exact⟨0,.slice none 0 0,rfl,xZ _,BX0.out,BX1.out,OT.nil _ _ _,BXB.out⟩
   case round =>
    obtain⟨d,l,rfl,hd,h0,h1,hin,hbi⟩:=hrel;obtain⟨us,hus⟩:∃ us,us=(t.kids.take d).map Qif:=⟨_,rfl⟩;rw[<-hus]at hin;have HUS:=hQ hus;clear hus;obtain⟨MA,mc,hm⟩:=hin.slice;subst hm;have H0:=hQ h0;have H1:=hQ h1;have HIN:=hQ hin;have HBI:=hQ hbi;have m3:wr.cell? ⟨w0.heap.size+1,3,none⟩=some _:=Qab h1 3 _ rfl;have mbl:=Qaa h1;have mfr:=xL h1;have k3:=Qab h0 3 _ rfl;have k0:=Qab h0 0 _ rfl;have k1:=Qab h0 1 _ rfl;have tbl:=Qaa h0;clear hin hbi h0 h1
    by_cases hdl:d<t.kids.length
    ·obtain⟨k,hk⟩:∃ k,t.kids[d]? = some k:=⟨_,xF hdl⟩;obtain⟨kb,ko,hua⟩:∃ b off,uka=some ⟨b,off,none⟩:=HU.out.addr.resolve_left (by omega);subst hua;have HWR:=hQ (yC HBR.out HBI.out);obtain⟨v,e0,e1,e2,e3,hv⟩:=(HU.out.keep (HBI.out.mono (xA _))).at rfl hk;obtain⟨v1,v2,v3,v4⟩:=hv.kl;have HV:=hQ hv;have HK:=hQ hk;have HOK:=hQ (Zdn HZ.out HG.out HT.out hk);have el:=xK wr _ e0;have hd0:(0:Int)<=(d:Int):=by omega
     have hd1:(d:Int)<(t.kids.length:Int):=by omega
     have hd2:(d:Int)+1<=1001:=by omega
     obtain⟨vs,hlen,hrow,hts⟩:=HIN.out;have HLEN:=hQ hlen;have HROW:=hQ hrow;have HTR:=hQ hts;have hul:us.length=d:=by rw[HUS.out,List.length_map,List.length_take];omega
     have HM1:=hQ (show us.length+1<=maxLen from by unfold maxLen;omega);have HM2:=hQ (show(us.length+1)*72<=140737488355328 from by omega);have HJ:=hQ hul;clear hlen hrow hts hul hv hk;obtain⟨dk,dx,dla,dll,dlc,dka,dkl,dkc⟩:=v;simp only at v1 v2 v3 v4;subst v1 v2 v3 v4
     by_cases h3:k.kind=3
     ·have q3:(k.kind==3)=true:=by simp[h3]
      obtain⟨a,ha,ha1,ha2⟩:=Qnu HOK.out.1 h3;have HA:=hQ ha;have haj:k.kids[0]? = some a:=by rw[ha];rfl
      have hkl1:k.kids.length=1:=by rw[ha];rfl
      obtain⟨ab,ao,hdka⟩:∃ b off,dka=some ⟨b,off,none⟩:=HV.out.addr.resolve_left (by omega);subst hdka;obtain⟨x,f0,f1,f2,f3,hx⟩:=HV.out.at rfl haj;simp only[Nat.zero_mul,Nat.add_zero]at f0 f1 f2 f3;have fl:=xK wr _ f0;have HW2:=hQ (Qe0 wr (trO ⟨k.kind,k.text,dla,k.leads.length,dlc,some ⟨ab,ao,none⟩,k.kids.length,dkc⟩) Zdk);have DX0:=hQ (Qdv wr (trO ⟨k.kind,k.text,dla,k.leads.length,dlc,some ⟨ab,ao,none⟩,k.kids.length,dkc⟩) Zdk).1;have HC:=hQ (Qv1 _ (fun b=>b<w.heap.size) a x _ (xA _) (fun b hb=>xE hb (xQ HWR.out.size HW2.out.size)) (hx.keep HW2.out) ha2 ha1 (by have:=Qbi haj;have:=HOK.out.2;omega));have H3:=hQ h3;have hi0:(0:Int)<(k.kids.length:Int):=by omega
      clear ha ha1 ha2 haj hx h3 hkl1
      go_wp2_with (first
       | (go_at_call 55;refine HC.out.mono ?_;rintro e w5⟨y,rfl,hy,hb5⟩;have HY:=hQ hy;have HB5:=hQ (yC HW2.out hb5);have g1:=(HB5.out.block (w0.heap.size+1) mbl).trans H1.out;have g0:=Zdm hb5;clear hy hb5 m3 mbl mfr e0 e1 e2 e3 f0 f1 f2 f3;have m3:w5.cell? ⟨w0.heap.size+1,3,none⟩=some _:=Qab g1 3 _ rfl;have mbl:=Qaa g1;have mfr:=xL g1;have e0:w5.cell? ⟨wr.heap.size,0,none⟩=some (.int .i64 k.kind):=Qab g0 0 _ rfl;have e1:w5.cell? ⟨wr.heap.size,1,none⟩=some (.string k.text):=Qab g0 1 _ rfl;have dbl:=Qaa g0;have mb2:=Nat.lt_of_succ_lt mbl;have mb3:=Nat.lt_succ_of_lt mb2;clear g0 g1;have HWK:=hQ (Qgz HB5.out (trO y) (Zih y) (Zhl k.kind k.text (w5.heap.size+1) 1));have HRW:=hQ (Qf8 HROW.out HWK.out);have HNW:=hQ (Qyy w5 (trO y) (Zih y) k.kind k.text);have HSZ:=hQ (show w0.heap.size+2<=(((w5.alloc (trO y)).alloc (Zih y)).alloc (Zhl k.kind k.text (w5.heap.size+1) 1)).heap.size from by rw[Qhx];have:=HB5.out.size;omega))
       | (at_builtin;refine Qep _ rfl _ _ 22 rfl (w0.heap.size+2) 25 it _ 4 72 underlying22 hit ht0 ht1 ht2 rfl (by decide) _ us.length (Qag vs) rfl HRW.out ⟨w5.heap.size+2,0,none⟩ 1 1 (TV.cells ⟨k.kind,k.text,none,0,0,some ⟨w5.heap.size+1,0,none⟩,1,1⟩) rfl rfl HNW.out (Qgu _) (by decide) HM1.out HM2.out HSZ.out ?_;intro g6 c6 w6 hown6 hk6 hg6 hlt6;have HO6:=hQ hown6;have HK6:=hQ hk6;have HG6:=hQ hg6;have x1:=Qst HRW.out HK6.out HWK.out H1.out;clear hown6 hk6 hg6 hlt6 m3 mbl mfr;have m3:w6.cell? ⟨w0.heap.size+1,3,none⟩=some _:=Qab x1 3 _ rfl;have mbl:=Qaa x1;have mfr:=xL x1;clear x1))
      go_roundw
      case measure=>first | (simp[intOf];done) | (simp[intOf];omega)
      case rel=>exact Zdj HUS.out HK.out HBR.out.size H0.out H1.out HBI.out HWK.out HLEN.out HRW.out (fun i k u hk hu=>TrAt.move (fun b hb=>⟨hb.1,xE hb.2.1 HWK.out.size,hb.2.2⟩) (fun b _ hl=>HWK.out.block b hl) _ _ (HTR.out i k u hk hu)) (Zkr _ _ H3.out HA.out HBR.out.size (Qaa H1.out) HIN.out.lt HB5.out HY.out) HO6.out HK6.out HG6.out
     ·have q3:=Qcr h3;have HOT3:=hQ (Qe0 wr (trO ⟨k.kind,k.text,dla,k.leads.length,dlc,dka,k.kids.length,dkc⟩) Zdk);have HWK:=hQ (HOT3.out.alloc HOT3.out.size (Zhl k.kind k.text (wr.heap.size+1) 2));have HRW:=hQ (show((((wr.alloc (trO ⟨k.kind,k.text,dla,k.leads.length,dlc,dka,k.kids.length,dkc⟩)).alloc Zdk).alloc (Zhl k.kind k.text (wr.heap.size+1) 2)).ownsRow (w0.heap.size+2) 25 4 (.slice MA us.length mc) us.length (Qag vs)) from Qf8 HROW.out HWK.out)
      have HNW:=hQ (show ∀ (q:Nat) (x:Value),(TV.cells ⟨k.kind,k.text,none,0,0,some ⟨wr.heap.size+1,0,none⟩,2,2⟩)[q]? = some x->(((wr.alloc (trO ⟨k.kind,k.text,dla,k.leads.length,dlc,dka,k.kids.length,dkc⟩)).alloc Zdk).alloc (Zhl k.kind k.text (wr.heap.size+1) 2)).cell? ((⟨wr.heap.size+2,0,none⟩:Addr).add q)=some x from by
       have h:=xM (xH ((wr.alloc (trO ⟨k.kind,k.text,dla,k.leads.length,dlc,dka,k.kids.length,dkc⟩)).alloc Zdk) (Zhl k.kind k.text (wr.heap.size+1) 2));rw[xI,xI]at h;exact h)
      have HSZ:=hQ (show w0.heap.size+2<=(((wr.alloc (trO ⟨k.kind,k.text,dla,k.leads.length,dlc,dka,k.kids.length,dkc⟩)).alloc Zdk).alloc (Zhl k.kind k.text (wr.heap.size+1) 2)).heap.size from by rw[xI,xI,xI];omega);have H3:=hQ h3;clear h3;go_wp2_with (at_builtin;refine Qep _ rfl _ _ 22 rfl (w0.heap.size+2) 25 it _ 4 72 underlying22 hit ht0 ht1 ht2 rfl (by decide) _ us.length (Qag vs) rfl HRW.out ⟨wr.heap.size+2,0,none⟩ 1 1 (TV.cells ⟨k.kind,k.text,none,0,0,some ⟨wr.heap.size+1,0,none⟩,2,2⟩) rfl rfl HNW.out (Qgu _) (by decide) HM1.out HM2.out HSZ.out ?_;intro g6 c6 w6 hown6 hk6 hg6 hlt6;have HO6:=hQ hown6;have HK6:=hQ hk6;have HG6:=hQ hg6;have x1:=Qst HRW.out HK6.out HWK.out H1.out;clear hown6 hk6 hg6 hlt6 m3 mbl mfr;have m3:w6.cell? ⟨w0.heap.size+1,3,none⟩=some _:=Qab x1 3 _ rfl;have mbl:=Qaa x1;have mfr:=xL x1;clear x1)
      go_roundw
      case measure=>first | (simp[intOf];done) | (simp[intOf];omega)
      case rel=>exact Zdj HUS.out HK.out HBR.out.size H0.out H1.out HBI.out HWK.out HLEN.out HRW.out (fun i k u hk hu=>TrAt.move (fun b hb=>⟨hb.1,xE hb.2.1 HWK.out.size,hb.2.2⟩) (fun b _ hl=>HWK.out.block b hl) _ _ (HTR.out i k u hk hu)) (Zl9 _ _ H3.out (Qaa H1.out) (fun b hb=>(HIN.out.lt b hb).2)) HO6.out HK6.out HG6.out
    ·obtain rfl:d=t.kids.length:=by omega
     have HW3:=hQ (show t.kids.take t.kids.length=t.kids from List.take_length);have HUS2:=hQ (show us=t.kids.map Qif from HUS.out.trans (by rw[HW3.out]));have hk2:=HK2.out;obtain⟨vs,hlen,hrow,htt⟩:=HOT.out;have HLEN:=hQ hlen;have HWK:=hQ (show Below w0.heap.size w0 (wr.alloc (Zkq t.kind t.text (.slice MA us.length mc))) from HBI.out.alloc HBI.out.size _);have HRW:=hQ (Qf8 hrow HWK.out);have HTR:=hQ htt;have hul:ts.length=j:=by rw[HTS.out,List.length_map,List.length_take];omega
     have HM1:=hQ (show ts.length+1<=maxLen from by unfold maxLen;omega);have HM2:=hQ (show(ts.length+1)*72<=140737488355328 from by omega);have HNW:=hQ (xM (xH wr (Zkq t.kind t.text (.slice MA us.length mc))));have HSZ:=hQ (show w.heap.size<=(wr.alloc (Zkq t.kind t.text (.slice MA us.length mc))).heap.size from xQ HBR.out.size HWK.out.size);have m0:wr.cell? ⟨w0.heap.size+1,0,none⟩=some _:=Qab H1.out 0 _ rfl;have m1:wr.cell? ⟨w0.heap.size+1,1,none⟩=some _:=Qab H1.out 1 _ rfl;have m2:wr.cell? ⟨w0.heap.size+1,2,none⟩=some _:=Qab H1.out 2 _ rfl;clear hlen hrow htt hul;go_wp2_with (at_builtin;refine Qep _ rfl _ _ 22 rfl w.heap.size 25 it _ 4 72 underlying22 hit ht0 ht1 ht2 rfl (by decide) _ ts.length (Qag vs) rfl HRW.out ⟨wr.heap.size,0,none⟩ 1 1 (TV.cells ⟨t.kind,t.text,none,0,0,MA,us.length,mc⟩) rfl rfl HNW.out (Qgu _) (by decide) HM1.out HM2.out HSZ.out ?_;intro g6 c6 w6 hown6 hk6 hg6 hlt6;have HO6:=hQ hown6;have HK6:=hQ hk6;have HG6:=hQ hg6;clear hown6 hk6 hg6 hlt6)
     go_roundw
     case measure=>first | (simp[intOf];done) | (simp[intOf];omega)
     case rel=>exact Zhk HTS.out HUS2.out HT.out HBR.out HBI.out (Qcs wr _) HLEN.out HRW.out (fun b hb=>(HOT.out.lt b hb).2) (fun i k u hk hu=>TrAt.move (fun b hb=>⟨hb.1,xE hb.2.1 HWK.out.size,hb.2.2⟩) (fun b _ hl=>HWK.out.block b hl) _ _ (HTR.out i k u hk hu)) HIN.out HO6.out HK6.out HG6.out
  ·obtain rfl:j=ps.length:=by omega
   have HW3:=hQ (show ps.take ps.length=ps from List.take_length);have hl3:ts.length=ps.length:=by rw[HTS.out,HW3.out,List.length_map]
   have HE:=hQ (show ts=Qig ps from HTS.out.trans (by rw[HW3.out];rfl));have HL3:=hQ hl3;clear hl3;go_wp2;go_ret;refine⟨QA,qc,by rw[HL3.out];first | rfl | simp,?_,HBR.out⟩;have h:=HOT.out;rw[HE.out,show(Qig ps).length=ps.length from by rw[<-HE.out];exact HL3.out]at h;exact h
mutual
theorem Qf9:(t:Tr)->Qgm t=true->Qbs t=true
 | .mk _ _ ls ks,h=>by
  rw[Qgm]at h;simp only[Bool.and_eq_true,decide_eq_true_eq]at h;rw[Qbs,Qph ks h.2,xS (by omega),xS (by omega)];rfl
theorem Qph:(l:List Tr)->Qzo l=true->Qdf l=true
 | [],_=>by rw[Qdf]
 | t :: r,h=>by
  rw[Qzo,Bool.and_eq_true]at h;rw[Qdf,Qf9 t h.1,Qph r h.2];rfl
end
theorem Qjf(P:Tr->Prop)(hP:∀ (t k:Tr) (j:Nat),P t->t.kids[j]? = some k->P k)(N:Nat):∀ t:Tr,SizeOf.sizeOf t<=N->Qa2 t=true->5<=t.kind/\t.kind<=9->P t->P (Qbd t):=by
 induction N with
 | zero=>intro t h;have:=Qf3 t;omega
 | succ N ih =>
  intro t hN h hk hp
  rcases Qfu h hk with⟨h8,k,hkk,h1,h2⟩|⟨h8,_,_⟩
  ·have hj:t.kids[0]? = some k:=by rw[hkk];rfl
   rw[(Qfj h8 hkk).1];exact ih k (by have:=Qar hj;omega) h2 h1 (hP t k 0 hp hj)
  ·rw[(Qfk h8).1];exact hp
theorem Qpi(P:Tr->Prop)(hP:∀ (t k:Tr) (j:Nat),P t->t.kids[j]? = some k->P k){k:Tr}(h:Qqx k)(h3:k.kind=3)(hp:P k):P (Qd4 k):=by
 obtain⟨a,h1,h2,_,_,_,_,h4,h5⟩:=Qqy h h3;rw[h2];exact Qjf P hP _ a (xA _) h4 h5 (hP k a 0 hp (by rw[h1];rfl))
theorem Qsu(k:Tr):(Qif k).kids=if k.kind=3 then [Qd4 k] else [Qem 5,Qem 15]:=rfl
theorem Zdo{k:Tr}(h:Qqx k):Qai (Qif k)<=Qai k:=by
 rw[Qa5,Qa5 k,Qsu]
 by_cases h3:k.kind=3
 ·obtain⟨a,h1,h2,_,c2,_⟩:=Qqy h h3;rw[xO h3,h1,Qal,Qal,Qal,Qal,Qa5,h2,c2,Qal,Qa5 a];omega
 ·have h2:k.kind=2:=by have:=h.1;omega
  have h4:=Qyn h.2.1 h2;have h5:=Qa0 k.kids;rw[xN h3];have e:Qal [Qem 5,Qem 15] = 2:=by kernel_rfl
  omega
theorem Qqz{f:Tr->Tr}:(l:List Tr)->(∀ k∈l,Qai (f k)<=Qai k)->Qal (l.map f)<=Qal l
 | [],_=>by rw[List.map_nil];exact xA _
 | a :: r,h=>by
  rw[List.map_cons,Qal,Qal];have h1:=h a (by simp);have h2:=Qqz r fun k hk=>h k (by simp[hk])
  omega
theorem Zhn{k:Tr}(h:Qqx k):Qa2 (Qif k)=true:=by
 have e0:(Qif k).kind=k.kind:=rfl;have e1:(Qif k).text=k.text:=rfl;have hn:=(Qf5 h.2.1).2.1;rw[Qd8,e0,e1,Qsu,hn]
 by_cases h3:k.kind=3
 ·obtain⟨a,h1,h2,c1,c2,_,c4,_⟩:=Qqy h h3;rw[xO h3,h3,Qbo,Qbo,h2,c4];have e2:Qg0 3 [Qd4 k].length 0 (Qbd a).kind=(decide (5<=(Qbd a).kind) && decide ((Qbd a).kind<=9)):=rfl;have e3:Qg0 3 [Qbd a].length 0 (Qbd a).kind=(decide (5<=(Qbd a).kind) && decide ((Qbd a).kind<=9)):=rfl
  first | rw[e2] | rw[e3]
  rw[xS (show 5<=(Qbd a).kind from by omega),xS (show(Qbd a).kind<=9 from by omega)];rfl
 ·have h2:k.kind=2:=by have:=h.1;omega
  rw[xN h3,h2];have e2:Qbo 2 [Qem 5,Qem 15].length 0 [Qem 5,Qem 15] = true:=by kernel_rfl
  rw[e2];rfl
theorem Qwm(n:Nat):(l:List Tr)->(i:Nat)->(∀ k∈l,Qqx k)->Qbo 1 n i (l.map Qif)=true
 | [],i,_=>by rw[List.map_nil,Qbo]
 | a :: r,i,h=>by
  have ha:=h a (by simp);rw[List.map_cons,Qbo,Zhn ha,Qwm n r (i+1) fun k hk=>h k (by simp[hk])];have e:Qg0 1 n i (Qif a).kind=(a.kind==2 || a.kind==3):=rfl;rw[e];rcases ha.1 with e | e <;> rw[e] <;> rfl
theorem Qmv{ps:List Tr}(hz:∀ t∈ps,Qai t<=1000)(hg:Qc1 ps=true){m:Nat}{t:Tr}(ht:ps[m]? = some t):∀ k∈t.kids,Qqx k:=fun k hk=>by
 obtain⟨d,hd,he⟩:=List.getElem_of_mem hk;exact Qwf hz hg ht (d:=d) (by rw[xF hd,he])
theorem Zdp{ps:List Tr}(hz:∀ t∈ps,Qai t<=1000)(hg:Qc1 ps=true){m:Nat}{t:Tr}(ht:ps[m]? = some t):Qai (Qq7 t)<=Qai t:=by
 rw[Qa5,Qa5 t,Qiz];have:=Qqz (f:=Qif) t.kids fun k hk=>Zdo (Qmv hz hg ht k hk)
 omega
theorem Qsv{ps:List Tr}(hz:∀ t∈ps,Qai t<=1000)(hg:Qc1 ps=true):(∀ t∈Qig ps,Qai t<=1000)/\Qal (Qig ps)<=Qal ps:=by
 have h1:∀ t∈ps,Qai (Qq7 t)<=Qai t:=fun t ht=>by
  obtain⟨m,hm,he⟩:=List.getElem_of_mem ht;exact Zdp hz hg (m:=m) (by rw[xF hm,he])
 refine⟨fun t ht=>?_,Qqz ps h1⟩;obtain⟨u,hu,rfl⟩:=List.mem_map.1 ht;exact xQ (h1 u hu) (hz u hu)
theorem Zho{ps:List Tr}(hz:∀ t∈ps,Qai t<=1000)(hg:Qc1 ps=true):Qc1 (Qig ps)=true:=by
 unfold Qc1;rw[List.all_eq_true];intro t ht;have hzt:=(Qsv hz hg).1 t ht;obtain⟨u,hu,rfl⟩:=List.mem_map.1 ht;obtain⟨m,hm,he⟩:=List.getElem_of_mem hu;have hum:ps[m]? = some u:=by rw[xF hm,he]
 obtain⟨q1,q2⟩:=Qgo hg hum;rw[<-Qce _ _ (xA _) hzt];rw[<-Qce _ u (xA _) (hz u hu)]at q2;have e0:(Qq7 u).kind=u.kind:=rfl;have e1:(Qq7 u).text=u.text:=rfl;have hn:=(Qf5 q2).2.1;rw[Qd8,e0,e1,Qiz,hn,q1,Qwm _ _ _ (Qmv hz hg hum)]
 have e2:Qat 1 (u.kids.map Qif).length=3:=by
  have:Qat 1 (u.kids.map Qif).length=if (0:Int)<=((u.kids.map Qif).length:Int) then 3 else -1:=rfl
  rw[this,xO (by omega)]
 rw[e2];rfl
theorem Qwn:(l:List Tr)->(∀ t∈l,Qgm t=true)->Qzo l=true
 | [],_=>by rw[Qzo]
 | t :: r,h=>by rw[Qzo,h t (by simp),Qwn r fun u hu=>h u (by simp[hu])];rfl
theorem Qlw{k:Int}{x:yD}{ls:List yD}{ks:List Tr}(h1:ls.length<=8796093022208)(h2:ks.length<=1900000000000)(h3:∀ t∈ks,Qgm t=true):Qgm (.mk k x ls ks)=true:=by
 rw[Qgm,xS h1,xS h2,Qwn ks h3];rfl
theorem Zdq(t k:Tr)(j:Nat)(h:Qgm t=true)(hk:t.kids[j]? = some k):Qgm k=true:=(Qb2 h).2.2 j k hk
theorem Zks{ps:List Tr}(hz:∀ t∈ps,Qai t<=1000)(hg:Qc1 ps=true)(hf:Qgm (Qa9 ps)=true):Qgm (Qa9 (Qig ps))=true:=by
 refine Qlw (by simp) (by unfold Qig;rw[List.length_map];exact(Qb2 hf).2.1) fun t' ht'=>?_
 obtain⟨t,ht,rfl⟩:=List.mem_map.1 ht';obtain⟨m,hm,he⟩:=List.getElem_of_mem ht;have htm:ps[m]? = some t:=by rw[xF hm,he]
 have hft:=(Qb2 hf).2.2 m t htm;refine Qlw (by simp) (by rw[List.length_map];exact(Qb2 hft).2.1) fun k' hk'=>?_
 obtain⟨k,hk,rfl⟩:=List.mem_map.1 hk';obtain⟨d,hd,he'⟩:=List.getElem_of_mem hk;have hkd:t.kids[d]? = some k:=by rw[xF hd,he']
 have hok:=Qmv hz hg htm k hk;unfold Qif
 by_cases h3:k.kind=3
 ·rw[xO h3];refine Qlw (by simp) (by simp) fun a ha=>?_
  rw[List.mem_singleton]at ha;rw[ha];exact Qpi (fun t=>Qgm t=true) Zdq hok h3 (Zdq _ _ _ hft hkd)
 ·rw[xN h3];refine Qlw (by simp) (by simp) fun a ha=>?_
  simp at ha
  rcases ha with rfl | rfl <;> kernel_rfl
theorem Qpj:(l:List Tr)->(∀ t∈l,Qbg t=true)->Qjp l=true
 | [],_=>by rw[Qjp]
 | t :: r,h=>by rw[Qjp,h t (by simp),Qpj r fun u hu=>h u (by simp[hu])];rfl
theorem Qk6{k:Int}{x:yD}{ks:List Tr}(h1:x.size<maxLen)(h3:∀ t∈ks,Qbg t=true):Qbg (.mk k x [] ks)=true:=by
 rw[Qbg,xS h1,Qpj ks h3];rfl
theorem Qhy(t k:Tr)(j:Nat)(h:Qbg t=true)(hk:t.kids[j]? = some k):Qbg k=true:=(Qa7 h).2.2 j k hk
theorem Zdr{ps:List Tr}(hz:∀ t∈ps,Qai t<=1000)(hg:Qc1 ps=true)(hf:Qbg (Qa9 ps)=true):Qbg (Qa9 (Qig ps))=true:=by
 refine Qk6 (by decide) fun t' ht'=>?_
 obtain⟨t,ht,rfl⟩:=List.mem_map.1 ht';obtain⟨m,hm,he⟩:=List.getElem_of_mem ht;have htm:ps[m]? = some t:=by rw[xF hm,he]
 have hft:=Qhy _ t m hf htm;refine Qk6 (Qa7 hft).1 fun k' hk'=>?_
 obtain⟨k,hk,rfl⟩:=List.mem_map.1 hk';obtain⟨d,hd,he'⟩:=List.getElem_of_mem hk;have hkd:t.kids[d]? = some k:=by rw[xF hd,he']
 have hok:=Qmv hz hg htm k hk;have hfk:=Qhy _ _ _ hft hkd;unfold Qif;refine Qk6 (Qa7 hfk).1 fun a ha=>?_
 by_cases h3:k.kind=3
 ·rw[xO h3,List.mem_singleton]at ha;rw[ha];exact Qpi (fun t=>Qbg t=true) Qhy hok h3 hfk
 ·rw[xN h3]at ha;simp at ha
  rcases ha with rfl | rfl <;> kernel_rfl
structure OutOk (ps:List Tr) (w':World) (A:yE) (c:Nat):Prop where
 at':TrAt (fun b=>b<w'.heap.size) w' (Qa9 (Qig ps)) ⟨0,⟨#[]⟩,none,0,0,A,(Qig ps).length,c⟩
 fit:Qgm (Qa9 (Qig ps))=true
 small:Qbs (Qa9 (Qig ps))=true
 words:Qbg (Qa9 (Qig ps))=true
 size:Qal (Qig ps)<=90000
 prog:Qc1 (Qig ps)=true
theorem Qpk(S:Nat->Prop)(A:yE)(c:Nat)(ps:List Tr)(w:World)(hp:TrAt S w (Qa9 ps) ⟨0,⟨#[]⟩,none,0,0,A,ps.length,c⟩)(hg:Qc1 ps=true)(hz:∀ t∈ps,Qai t<=1000)(hl:Qal ps<=90000)(hf:Qgm (Qa9 ps)=true)(hw:Qbg (Qa9 ps)=true) :
  Calls prog 36 #[.slice A ps.length c] w fun e w'=>∃ A' c',e = .returned (.slice A' (Qig ps).length c')/\OutOk ps w' A' c'/\Below w.heap.size w w':=by
 refine(Quw S A c ps w hp hg hz (xQ (Qa0 ps) hl)).mono ?_;rintro e w'⟨A',c',rfl,ho,hb⟩;have hlen:(Qig ps).length=ps.length:=by unfold Qig;rw[List.length_map]
 have hfo:=Zks hz hg hf;rw[<-hlen]at ho |-;exact⟨A',c',rfl,⟨ho.node 0 ⟨#[]⟩ fun b _ hb'=>hb',hfo,Qf9 _ hfo,Zdr hz hg hw,xQ (Qsv hz hg).2 hl,Zho hz hg⟩,hb⟩
theorem Zds{w w':World}{b n:Nat}{f:Pr->Option Pr}(h:AMap w b n f)(hg:w.grownBy w' (some b)):Keeps (fun k=>if k=b then some 0 else none) w w':=by
 refine⟨hg.os,hg.tape,hg.output,hg.size,fun k hk hn=>hg.block k hk (fun e=>?_),fun k n' cur t hn hc=>?_⟩
 ·injection e with e;subst e;rw[xO rfl]at hn;cases hn
 ·by_cases e:k=b
  ·subst e;obtain⟨D,⟨es,ck,q1,_⟩,_⟩:=h;rw[q1]at hc;injection hc with hc;cases hc
  ·rw[xN e]at hn;cases hn
theorem TgsAt.map{w w':World}{B b n:Nat}{f:Pr->Option Pr}{v:Value}{zs:List Tgm}(h:TgsAt w B v zs)(hm:AMap w b n f)(hb:b<B)(hg:w.grownBy w' (some b)):TgsAt w' B v zs:=by
 obtain⟨ws,h1,h2⟩:=h;have hk:=Zds hm hg
 refine⟨ws,hk.row h1 fun g hg=>.inl (xN fun e=>?_),h2.step fun v p h=>hk.row h fun g hg=>.inl (xN fun e=>?_)⟩
 ·have:=(World.ownsRow.lt h1 g hg).1
  omega
 ·have:=(World.ownsRow.lt h g hg).1
  omega
def RfL(zs:List Tgm)(tv:Value)(w:World)(i:Value)(wr:World):Prop:=∃ j:Nat,i = .int .i64 (j:Int)/\j<=zs.length/\TgsAt wr (w.heap.size+1) tv zs/\AMap wr w.heap.size j (Qlv (zs.take j))/\Below w.heap.size w wr
theorem Zdt{w w':World}{b:Nat}(h:w.grownBy w' (some b)){B:Nat}(hB:B<=b)(hs:B<=w.heap.size):Below B w w':=⟨h.os,h.tape,h.output,h.size,fun k hk=>h.block k (by omega) (fun e=>by injection e with e;omega)⟩
theorem Qpl{w:World}{B:Nat}{v:Value}{x:Int}{p:List Int}(h:IRow w B v (x :: p)):∃ g c,v = .slice (some ⟨g,0,none⟩) (p.length+1) c/\g<w.heap.size/\w.cell? ⟨g,0,none⟩=some (.int .i64 x):=by
 obtain⟨g,cap,e,hg,hlt⟩:=World.ownsRow.form h (by simp);subst e;have hc:=World.ownsRow.cells h (g:=g) rfl 0 _ rfl;rw[Addr.add_lit]at hc;exact⟨g,cap,rfl,hlt,hc⟩
theorem Qjt(S:Nat->Prop)(A:yE)(c:Nat)(ps:List Tr)(w:World)(hp:TrAt S w (Qa9 ps) ⟨0,⟨#[]⟩,none,0,0,A,ps.length,c⟩)(hf:Qgm (Qa9 ps)=true)(hs:Qbs (Qa9 ps)=true)(hw:Qbg (Qa9 ps)=true)(hz:Qal ps<=90000)
  (hu:∀ z∈Qjk ps,W64 z.1/\∃ x p,z.2.1=x :: p/\W64 x) :
  Calls prog 35 #[.slice A ps.length c] w fun e w'=>∃ b,e = .returned (.map (some b))/\AMap w' b 90001 (Qlv (Qjk ps))/\w.heap.size<=b/\Below w.heap.size w w':=by
 have HBM:=hQ (Qcs w (.map #[] 0));have HMM:=hQ (AMap.made w);have HC:=hQ (Qur S A c ps (w.alloc (.map #[] 0)) (hp.keep HBM.out) hf hs hw hz);have HZL:=hQ (show(Qjk ps).length<=90000 from xQ (Zc2 ps) hz);obtain⟨zs,hzs⟩:∃ zs,zs=Qjk ps:=⟨_,rfl⟩;rw[<-hzs]at HC HZL hu |-;have HU:=hQ hu;have hmm:=@run_makeMap prog;clear hp hf hs hw hz hzs hu;go_enter func35,ntmps35;go_wp2_with (go_at_call 63;refine HC.out.mono ?_;rintro e w1⟨v,rfl,ht,hb⟩;obtain⟨TA,tc,rfl⟩:=ht.slice;have HT1:=hQ ht;have HB1:=hQ hb;clear ht hb)
 go_loopw [10] (fun i wr=>RfL zs (.slice TA zs.length tc) w i wr) (fun i _=>zs.length-(intOf i).toNat)
 case atStart =>
  refine⟨0,rfl,xZ _,?_,(HMM.out.below HB1.out).mono (xA _),yC HBM.out HB1.out⟩;have h:=HT1.out;rw[xI]at h;exact h
 case round =>
  obtain⟨j,rfl,hj,ht,hm,hb⟩:=hrel;have HT:=hQ ht;have HM:=hQ hm;have HB:=hQ hb;clear ht hm hb
  by_cases hlt:j<zs.length
  ·obtain⟨z,hz⟩:∃ z,zs[j]? = some z:=⟨_,xF hlt⟩;obtain⟨_,g,pv,hTA,_,gl,c0,c1,c2,c3,c4,hrow⟩:=HT.out.at hz;subst hTA;obtain⟨u1,x,pp,u2,u3⟩:=HU.out z (yA hz);obtain⟨m,zp,a,b,f⟩:=z;simp only at c0 c2 c3 c4 hrow u1 u2;subst u2;obtain⟨pg,pc,hpv,pgl,p0⟩:=Qpl hrow;subst hpv;have HRW:=hQ hrow;have hk0:(0:Int)<=(j:Int):=by omega
   have hk1:(j:Int)<(zs.length:Int):=by omega
   have hk2:(j:Int)+1<=90001:=by have:=HZL.out;omega
   have HZ:=hQ hz;have HBA:=hQ (Qcs wr (tgO m (.slice (some ⟨pg,0,none⟩) (pp.length+1) pc) a b f));have HX:=xH wr (tgO m (.slice (some ⟨pg,0,none⟩) (pp.length+1) pc) a b f);have W1:=hQ u1;have W2:=hQ u3;have hpl:(0:Int)<(pp.length:Int)+1:=by omega
   have hpn:0<pp.length+1:=by omega
   clear hrow hz u1 u3
   by_cases hf:f=true
   ·subst hf;have HS:=hQ (show Qlv (zs.take (j+1))=Qlv (zs.take j) from by rw[Qpd HZ.out];rfl);clear HX hpl hpn;go_wp2;go_roundw
    case measure=>first | (simp[intOf];done) | (simp[intOf];omega)
    case rel=>exact⟨j+1,by go_num,by omega,HT.out.keep HBA.out,by rw[HS.out];exact(HM.out.below HBA.out).mono (Nat.le_succ _),yC HB.out HBA.out⟩
   ·have hf':f=false:=by simpa using hf
    subst hf';have HS:=hQ (show Qlv (zs.take (j+1))=Qv7 (Qlv (zs.take j)) (m,x) (a,b) from by rw[Qpd HZ.out];rfl);have x0:(wr.alloc (.cells #[.int .i64 m,.slice (some ⟨pg,0,none⟩) (pp.length+1) pc,.int .i64 a,.int .i64 b,.bool false] 103)).cell? ⟨wr.heap.size,0,none⟩=some (.int .i64 m):=Qab HX 0 _ rfl;have x1:(wr.alloc (.cells #[.int .i64 m,.slice (some ⟨pg,0,none⟩) (pp.length+1) pc,.int .i64 a,.int .i64 b,.bool false] 103)).cell? ⟨wr.heap.size,1,none⟩=some (.slice (some ⟨pg,0,none⟩) (pp.length+1) pc):=Qab HX 1 _ rfl;have x2:(wr.alloc (.cells #[.int .i64 m,.slice (some ⟨pg,0,none⟩) (pp.length+1) pc,.int .i64 a,.int .i64 b,.bool false] 103)).cell? ⟨wr.heap.size,2,none⟩=some (.int .i64 a):=Qab HX 2 _ rfl;have x3:(wr.alloc (.cells #[.int .i64 m,.slice (some ⟨pg,0,none⟩) (pp.length+1) pc,.int .i64 a,.int .i64 b,.bool false] 103)).cell? ⟨wr.heap.size,3,none⟩=some (.int .i64 b):=Qab HX 3 _ rfl;have x4:(wr.alloc (.cells #[.int .i64 m,.slice (some ⟨pg,0,none⟩) (pp.length+1) pc,.int .i64 a,.int .i64 b,.bool false] 103)).cell? ⟨wr.heap.size,4,none⟩=some (.bool false):=Qab HX 4 _ rfl;clear HX;have HROW:=HRW.out.keep HBA.out;obtain⟨pg2,pc2,hpv2,pgl2,q0⟩:=Qpl HROW;have e2:pg2=pg:=by injection hpv2 with e _ _;injection e with e;injection e with e _ _;exact e.symm
    subst e2;have xl:wr.heap.size<(wr.alloc (.cells #[.int .i64 m,.slice (some ⟨pg2,0,none⟩) (pp.length+1) pc,.int .i64 a,.int .i64 b,.bool false] 103)).heap.size:=by rw[xI];omega
    have HBX:=hQ (show Below wr.heap.size wr (wr.alloc (.cells #[.int .i64 m,.slice (some ⟨pg2,0,none⟩) (pp.length+1) pc,.int .i64 a,.int .i64 b,.bool false] 103)) from HBA.out);clear HROW hpv2 p0 HBA;go_wp2_with fail;generalize (wr.alloc (.cells #[.int .i64 m,.slice (some ⟨pg2,0,none⟩) (pp.length+1) pc,.int .i64 a,.int .i64 b,.bool false] 103))=wx at x0 x1 x2 x3 x4 q0 pgl2 xl HBX |-
    go_still_tail 15,(by kernel_rfl)
    change wpList _ _ _ _ _ wx.drew
    have HBD:=hQ (show Below wr.heap.size wr wx.drew from HBX.out.drew);clear x0 x1 x2 x3 x4 c0 c1 c2 c3 c4 q0;generalize wx.drew=wd at HBD |-;have HMD:=hQ (HM.out.below HBD.out);have HN:=hQ (show j<maxLen from by have:=HZL.out;unfold maxLen;omega);refine Qny rfl _ _ _ rfl w.heap.size j _ rfl HMD.out HN.out m x a b rfl rfl W1.out W2.out ?_;intro w6 hm6 hg6;have HM6:=hQ hm6;have HG6:=hQ hg6;clear hm6 hg6;go_wp2;go_roundw
    case measure=>first | (simp[intOf];done) | (simp[intOf];omega)
    case rel=>exact⟨j+1,by go_num,by omega,(HT.out.keep HBD.out).map HMD.out (xW _) HG6.out,by rw[HS.out];exact HM6.out,HB.out.trans ((HBD.out.mono HB.out.size).trans (Zdt HG6.out (xA _) (xQ HB.out.size HBD.out.size)))⟩
  ·obtain rfl:j=zs.length:=by omega
   have HS:=hQ (show Qlv (zs.take zs.length)=Qlv zs from by rw[List.take_length]);go_wp2;go_ret;exact⟨_,rfl,by rw[<-HS.out];exact HM.out.mono (by have:=HZL.out;omega),xA _,HB.out⟩
end Go.Proofs.YtfjpemdejoejbaaGreat
