/- Part 43: The contract of outline of package types. -/
import Derived.Test.YtclkilljmdkfaaaTy1
import Derived.Test.YtclkilljmdkfaaaTy34
import Derived.Test.YtclkilljmdkfaaaTy35
import Derived.Deep.DeepCutAuto
set_option maxRecDepth 100000
set_option maxHeartbeats 4000000
namespace Go.Proofs.Ytclkilljmdkfaaa
open Go.RowKit Go.Shelf
def OutL (ps:List Tr) (w:World) (q i:Value) (wr:World):Prop:=∃ j:Nat,i = .int .i64 (j:Int) ∧ j ≤ ps.length ∧ OT wr w.heap.size w.heap.size q ((ps.take j).map outM) ∧ Below w.heap.size w wr
abbrev modO (k:Int) (x:ByteArray) (l:Value):Obj:=.cells #[.int .i64 k,.string x,.slice none 0 0,l] 27
def InL (B0:Nat) (t:Tr) (v:TV) (w0:World) (i:Value) (wr:World):Prop:=∃ (j:Nat) (l:Value),i = .int .i64 (j:Int) ∧ j ≤ t.kids.length ∧ wr.heap[w0.heap.size]? = some (trO v) ∧ wr.heap[w0.heap.size + 1]? = some (modO t.kind t.text l) ∧
 OT wr B0 (w0.heap.size + 2) l ((t.kids.take j).map Qfh) ∧ Below w0.heap.size w0 wr
theorem in_next {B0:Nat} {t k:Tr} {v y:TV} {w0 wr wk w6:World} {j g cap:Nat} {l:Value} {vs:List TV} {us:List Tr} (hus:us = (t.kids.take j).map Qfh) (hk:t.kids[j]? = some k) (hB:B0 ≤ w0.heap.size)
  (h0:wr.heap[w0.heap.size]? = some (trO v)) (h1:wr.heap[w0.heap.size + 1]? = some (modO t.kind t.text l)) (hb:Below w0.heap.size w0 wr) (hbk:Below wr.heap.size wr wk) (hlen:vs.length = us.length)
  (hrow:wk.ownsRow (w0.heap.size + 2) 27 4 l us.length (Qaf vs))
  (h3:∀ (i:Nat) (k:Tr) (u:TV),us[i]? = some k → vs[i]? = some u → TrAt (fun b=>(b < B0 ∨ w0.heap.size + 2 ≤ b) ∧ b < wk.heap.size ∧ l.ownBlock ≠ some b) wk k u)
  (hy:TrAt (fun b=>(b < B0 ∨ w0.heap.size + 2 ≤ b) ∧ b < wk.heap.size ∧ l.ownBlock ≠ some b) wk (Qfh k) y)
  (ho:w6.ownsRow (w0.heap.size + 2) 27 4 (.slice (some ⟨g,0,none⟩) (us.length + 1) cap) (us.length + 1) (Qaf vs ++ y.cells)) (hkp:Keeps (pre l (us.length * 4)) wk w6) (hg:l.ownBlock = some g ∨ wk.heap.size ≤ g) :
  InL B0 t v w0 (.int .i64 ((j + 1:Nat):Int)) (w6.setCell ⟨w0.heap.size + 1,3,none⟩ (.slice (some ⟨g,0,none⟩) (us.length + 1) cap)):=by
 have hlo:∀ b,b < w0.heap.size + 2 → l.ownBlock ≠ some b:=fun b hl e=>by have:=(World.ownsRow.lt hrow b e).1;omega
 have hlt:=(List.getElem?_eq_some_iff.1 hk).1
 have hw:∀ b,b < w0.heap.size + 2 → b < wr.heap.size → w6.heap[b]? = wr.heap[b]?:=fun b h hl=>(hkp.block b (xE hl hbk.size) (Qbr (hlo b h))).trans (hbk.block b hl)
 have hst:=OT.snoc (k:=Qfh k) hlen hrow h3 hy ho hkp hg
 have hb6:Below w0.heap.size w0 w6:=hb.trans ((hbk.mono hb.size).trans (hkp.below (Nat.le_trans hb.size hbk.size) fun b hl=>Qbr (hlo b (by omega))))
 refine ⟨j + 1,.slice (some ⟨g,0,none⟩) (us.length + 1) cap,rfl,by omega,(Qdl (by omega)).trans ((hw _ (by omega) (Qab h0)).trans h0),Qaq ((hw _ (by omega) (Qab h1)).trans h1) rfl,?_,hb6.setCell (p:=⟨w0.heap.size + 1,3,none⟩) (by show w0.heap.size ≤ w0.heap.size + 1;omega) _⟩
 rw [map_take Qfh _ _ _ hk,← hus]
 exact hst.keep (by simp [World.setCell]) fun b hl h=>Qdl (by omega)
theorem out_next {ps:List Tr} {t:Tr} {w wr wi wk w6:World} {j g cap c:Nat} {q:Value} {A:Option Addr} {vs:List TV} {ts us:List Tr} (hts:ts = (ps.take j).map outM) (hus:us = t.kids.map Qfh) (ht:ps[j]? = some t) (hb:Below w.heap.size w wr) (hbi:Below wr.heap.size wr wi) (hbk:Below wi.heap.size wi wk)
  (hlen:vs.length = ts.length) (hrow:wk.ownsRow w.heap.size 27 4 q ts.length (Qaf vs)) (hq:∀ b,q.ownBlock = some b → b < wr.heap.size)
  (h3:∀ (i:Nat) (k:Tr) (u:TV),ts[i]? = some k → vs[i]? = some u → TrAt (fun b=>(b < w.heap.size ∨ w.heap.size ≤ b) ∧ b < wk.heap.size ∧ q.ownBlock ≠ some b) wk k u)
  (hot:OT wi w.heap.size (wr.heap.size + 2) (.slice A us.length c) us)
  (ho:w6.ownsRow w.heap.size 27 4 (.slice (some ⟨g,0,none⟩) (ts.length + 1) cap) (ts.length + 1) (Qaf vs ++ TV.cells ⟨t.kind,t.text,none,0,0,A,us.length,c⟩)) (hkp:Keeps (pre q (ts.length * 4)) wk w6) (hg:q.ownBlock = some g ∨ wk.heap.size ≤ g) :
  OutL ps w (.slice (some ⟨g,0,none⟩) (ts.length + 1) cap) (.int .i64 ((j + 1:Nat):Int)) w6:=by
 subst hus
 have hlt:=(List.getElem?_eq_some_iff.1 ht).1
 have hlo:∀ b,b < w.heap.size → q.ownBlock ≠ some b:=fun b hl e=>by have:=(World.ownsRow.lt hrow b e).1;omega
 have hotk:=hot.below hbk
 have hy:TrAt (fun b=>(b < w.heap.size ∨ w.heap.size ≤ b) ∧ b < wk.heap.size ∧ q.ownBlock ≠ some b) wk (outM t) ⟨t.kind,t.text,none,0,0,A,(t.kids.map Qfh).length,c⟩:=by
  refine hotk.node t.kind t.text fun b hb' hl=>⟨by omega,hl,fun e=>?_⟩
  have h1:=hq b e
  have h2:=(World.ownsRow.lt hrow b e).1
  omega
 have hst:=OT.snoc (k:=outM t) hlen hrow h3 hy ho hkp hg
 refine ⟨j + 1,rfl,by omega,?_,hb.trans ((hbi.mono hb.size).trans ((hbk.mono (Nat.le_trans hb.size hbi.size)).trans (hkp.below (Nat.le_trans (Nat.le_trans hb.size hbi.size) hbk.size) fun b hl=>Qbr (hlo b hl))))⟩
 rw [map_take outM _ _ _ ht,← hts]
 exact hst
abbrev twoO:Obj:=.cells #[.int .i64 5,.string ⟨#[]⟩,.slice none 0 0,.slice none 0 0,.int .i64 15,.string ⟨#[]⟩,.slice none 0 0,.slice none 0 0] 27
abbrev oneO (u:TV):Obj:=.cells #[.int .i64 u.kind,.string u.text,.slice u.la u.ll u.lc,.slice u.ka u.kl u.kc] 27
abbrev defO (k:Int) (x:ByteArray) (g n:Nat):Obj:=.cells #[.int .i64 k,.string x,.slice none 0 0,.slice (some ⟨g,0,none⟩) n n] 27
theorem out_func {w:World} {k:Tr} {g:Nat} {S:Nat → Prop} (h3:k.kind ≠ 3) (hg:w.heap[g]? = some twoO) (hS:S g):TrAt S w (Qfh k) ⟨k.kind,k.text,none,0,0,some ⟨g,0,none⟩,2,2⟩:=by
 unfold Qfh
 rw [if_neg h3]
 refine node_in (us:=[⟨5,⟨#[]⟩,none,0,0,none,0,0⟩,⟨15,⟨#[]⟩,none,0,0,none,0,0⟩]) k.kind k.text rfl (fun i a u ha hu=>?_) hg hS 2 rfl
 match i,ha,hu with
 | 0,ha,hu =>
  injection ha with ha
  injection hu with hu
  subst ha hu
  exact Qen _ _ _ _
 | 1,ha,hu =>
  injection ha with ha
  injection hu with hu
  subst ha hu
  exact Qen _ _ _ _
 | i + 2,ha,_=>simp at ha
theorem out_alias {w:World} {k a:Tr} {u:TV} {g:Nat} {S:Nat → Prop} (h3:k.kind = 3) (hk:k.kids = [a]) (hu:TrAt S w (Qa2 a) u) (hg:w.heap[g]? = some (oneO u)) (hS:S g):TrAt S w (Qfh k) ⟨k.kind,k.text,none,0,0,some ⟨g,0,none⟩,1,1⟩:=by
 unfold Qfh
 rw [if_pos h3,hk]
 refine node_in (us:=[u]) k.kind k.text rfl (fun i b v ha hv=>?_) hg hS 1 rfl
 match i,ha,hv with
 | 0,ha,hv =>
  injection ha with ha
  injection hv with hv
  subst ha hv
  exact hu
 | i + 1,ha,_=>simp at ha
theorem Qd8 {wr w5:World} (hb:Below wr.heap.size wr w5) (a b c:Obj):Below wr.heap.size wr (((w5.alloc a).alloc b).alloc c) :=
 ((hb.alloc hb.size a).alloc (by rw [xI];have:=hb.size;omega) b).alloc (by rw [xI,xI];have:=hb.size;omega) c
theorem three_mid (w5:World) (a b c:Obj):(((w5.alloc a).alloc b).alloc c).heap[w5.heap.size + 1]? = some b:=((Qbk ((w5.alloc a).alloc b) c).block _ (by rw [xI,xI];omega)).trans (Qb6 w5 a b).2
theorem Qdj (w5:World) (a b c:Obj):(((w5.alloc a).alloc b).alloc c).heap.size = w5.heap.size + 3:=by rw [xI,xI,xI]
theorem three_news (w5:World) (a b:Obj) (k:Int) (x:ByteArray):∀ (q:Nat) (z:Value),(TV.cells ⟨k,x,none,0,0,some ⟨w5.heap.size + 1,0,none⟩,1,1⟩)[q]? = some z → (((w5.alloc a).alloc b).alloc (defO k x (w5.heap.size + 1) 1)).cell? ((⟨w5.heap.size + 2,0,none⟩:Addr).add q) = some z:=by
 have h:=World.news_of_block (xH ((w5.alloc a).alloc b) (defO k x (w5.heap.size + 1) 1))
 rw [xI,xI] at h
 exact h
theorem box_after {wr w5:World} {a b:Obj} (h:Below ((wr.alloc a).alloc b).heap.size ((wr.alloc a).alloc b) w5):w5.heap[wr.heap.size]? = some a:=(h.block _ (by rw [xI,xI];omega)).trans (Qb6 wr a b).1
theorem func_y {B0:Nat} {w0 wr:World} {k:Tr} {l:Value} (o1 c:Obj) (h3:k.kind ≠ 3) (hl:w0.heap.size + 1 < wr.heap.size) (hown:∀ b,l.ownBlock = some b → b < wr.heap.size) :
  TrAt (fun b=>(b < B0 ∨ w0.heap.size + 2 ≤ b) ∧ b < (((wr.alloc o1).alloc twoO).alloc c).heap.size ∧ l.ownBlock ≠ some b) (((wr.alloc o1).alloc twoO).alloc c) (Qfh k) ⟨k.kind,k.text,none,0,0,some ⟨wr.heap.size + 1,0,none⟩,2,2⟩ :=
 out_func h3 (three_mid wr o1 twoO c) ⟨.inr (by omega),by rw [Qdj];omega,fun e=>by have:=hown _ e;omega⟩
theorem alias_y {B0:Nat} {w0 wr w5:World} {k a:Tr} {y:TV} {l:Value} (o1 c:Obj) (h3:k.kind = 3) (hk:k.kids = [a]) (hB:B0 ≤ w0.heap.size) (hl:w0.heap.size + 1 < wr.heap.size) (hown:∀ b,l.ownBlock = some b → w0.heap.size + 2 ≤ b ∧ b < wr.heap.size) (hb:Below wr.heap.size wr w5)
  (hy:TrAt (fun b=>b < B0) w5 (Qa2 a) y) :
  TrAt (fun b=>(b < B0 ∨ w0.heap.size + 2 ≤ b) ∧ b < (((w5.alloc o1).alloc (oneO y)).alloc c).heap.size ∧ l.ownBlock ≠ some b) (((w5.alloc o1).alloc (oneO y)).alloc c) (Qfh k) ⟨k.kind,k.text,none,0,0,some ⟨w5.heap.size + 1,0,none⟩,1,1⟩:=by
 have hs:=hb.size
 refine out_alias h3 hk (TrAt.move (fun b hb'=>⟨.inl hb',by rw [Qdj];omega,fun e=>by have:=hown _ e;omega⟩) (fun b _ hlt=>(Qd8 (xC w5.heap.size w5) o1 (oneO y) c).block b hlt) _ _ hy) (three_mid w5 o1 (oneO y) c) ⟨.inr (by omega),by rw [Qdj];omega,fun e=>by have:=hown _ e;omega⟩
theorem def_shape {ps:List Tr} {m d:Nat} {t k:Tr} (hz:∀ t ∈ ps,Qao t ≤ 1000) (hg:Qbv ps = true) (ht:ps[m]? = some t) (hk:t.kids[d]? = some k):Qa1 k = true ∧ Qao k ≤ 1000:=by
 obtain ⟨_,q2⟩:=Qdy hg ht
 have hzt:=hz t (List.mem_of_getElem? ht)
 rw [← Qbq _ t (xA _) hzt] at q2
 exact ⟨((Qd7 q2).2.2 d k hk).2,by have:=Qdu hk;omega⟩
theorem Qd9 {w w':World} {B:Nat} {e:TypeId} {size n:Nat} {v:Value} {xs:List Value} (h:w.ownsRow B e size v n xs) (hb:Below w.heap.size w w'):w'.ownsRow B e size v n xs:=(Keeps.of_below (P:=fun _=>none) hb).row h fun _ _=>.inl rfl
theorem keeps_box {w0 wr wk w6:World} {l:Value} {n:Nat} {xs:List Value} {o:Obj} (hrow:wk.ownsRow (w0.heap.size + 2) 27 4 l n xs) (hk:Keeps (pre l (n * 4)) wk w6) (hb:Below wr.heap.size wr wk) (h:wr.heap[w0.heap.size + 1]? = some o):w6.heap[w0.heap.size + 1]? = some o:=by
 have hl:=Qab h
 exact (hk.block _ (xE hl hb.size) (Qbr fun e=>by have:=(World.ownsRow.lt hrow _ e).1;omega)).trans ((hb.block _ hl).trans h)
theorem outline_any (S:Nat → Prop) (A:Option Addr) (c:Nat) (ps:List Tr) (w:World) (hp:TrAt S w (Qa3 ps) ⟨0,⟨#[]⟩,none,0,0,A,ps.length,c⟩) (hg:Qbv ps = true) (hz:∀ t ∈ ps,Qao t ≤ 1000) (hl:ps.length ≤ 90000) :
  Calls Try.prog 18 #[.slice A ps.length c] w fun e w'=>∃ A' c',e = .returned (.slice A' ps.length c') ∧ OT w' w.heap.size w.heap.size (.slice A' ps.length c') (Qfi ps) ∧ Below w.heap.size w w':=by
 obtain ⟨it,hit,ht0,ht1,ht2⟩:=info_parts Qct
 have HP:=hQ (TrAt.low _ _ hp)
 have HG:=hQ hg
 have HZ:=hQ hz
 have HMB:=hQ (show it.bytes * ps.length ≤ 281474976710656 from by rw [ht2];omega)
 have HMM:=hQ (show ps.length ≤ maxLen from by unfold maxLen;omega)
 clear hp hg hz
 go_enter Try.func18,Try.ntmps18
 go_wp2_with (refine wpList_make_own _ rfl _ _ 25 rfl w.heap.size 27 it _ 4 Try.underlying25 hit ht0 ht1 .i64 .i64 _ ps.length rfl rfl rfl HMB.out HMM.out (xA _) ?_;intro w1 hown1 hg1;have HO1:=hQ hown1;have HB1:=hQ (grown_below hg1);clear hown1 hg1)
 go_loopw [3,17] (fun q i wr=>OutL ps w q i wr) (fun _ i _=>ps.length - (intOf i).toNat)
 case atStart=>exact ⟨0,rfl,Nat.zero_le _,OT.empty HO1.out,HB1.out⟩
 case round =>
  obtain ⟨j,rfl,hj,hot,hb⟩:=hrel
  have HBR:=hQ hb
  obtain ⟨w0,hw0⟩:∃ w',w' = wr:=⟨_,rfl⟩
  subst hw0
  obtain ⟨ts,hts⟩:∃ ts,ts = (ps.take j).map outM:=⟨_,rfl⟩
  rw [← hts] at hot
  have HTS:=hQ hts
  clear hts
  obtain ⟨QA,qc,hq⟩:=hot.slice
  subst hq
  have HOT:=hQ hot
  clear hot hb
  by_cases hlt:j < ps.length
  ·obtain ⟨t,ht⟩:∃ t,ps[j]? = some t:=⟨_,xF hlt⟩
   obtain ⟨b,off,hka⟩:∃ b off,A = some ⟨b,off,none⟩:=HP.out.addr.resolve_left (by show ¬ ps.length = 0;omega)
   subst hka
   obtain ⟨u,c0,c1,c2,c3,hu⟩:=(HP.out.keep HBR.out).at rfl (show (Qa3 ps).kids[j]? = some t from ht)
   have HU:=hQ hu
   have HT:=hQ ht
   obtain ⟨u1,u2,u3,u4⟩:=hu.kl
   obtain ⟨uk,ux,ula,ull,ulc,uka,ukl,ukc⟩:=u
   simp only at u1 u2 u3 u4
   subst u1 u2 u3 u4
   have cl:=xK w0 _ c0
   have hk0:(0:Int) ≤ (j:Int):=by omega
   have hk1:(j:Int) < (ps.length:Int):=by omega
   have HK2:=hQ (show (j:Int) + 1 ≤ 90001 by omega)
   have hkl:t.kids.length ≤ 1000:=by have h1:=HZ.out t (List.mem_of_getElem? ht);have h2:=Qas t.kids;have h3:=Qbd t;omega
   obtain ⟨bx0,bx1⟩:=Qb6 w0 (trO ⟨t.kind,t.text,ula,t.leads.length,ulc,uka,t.kids.length,ukc⟩) (modO t.kind t.text (.slice none 0 0))
   have BX0:=hQ bx0
   have BX1:=hQ bx1
   have BXB:=hQ (Qcl w0 (trO ⟨t.kind,t.text,ula,t.leads.length,ulc,uka,t.kids.length,ukc⟩) (modO t.kind t.text (.slice none 0 0)))
   clear bx0 bx1 hu ht
   go_wp2
   go_loopw [29] (fun i wr=>InL w.heap.size t ⟨t.kind,t.text,ula,t.leads.length,ulc,uka,t.kids.length,ukc⟩ w0 i wr) (fun i _=>t.kids.length - (intOf i).toNat)
   case atStart=>exact ⟨0,.slice none 0 0,rfl,Nat.zero_le _,BX0.out,BX1.out,OT.nil _ _ _,BXB.out⟩
   case round =>
    obtain ⟨d,l,rfl,hd,h0,h1,hin,hbi⟩:=hrel
    obtain ⟨us,hus⟩:∃ us,us = (t.kids.take d).map Qfh:=⟨_,rfl⟩
    rw [← hus] at hin
    have HUS:=hQ hus
    clear hus
    obtain ⟨MA,mc,hm⟩:=hin.slice
    subst hm
    have H0:=hQ h0
    have H1:=hQ h1
    have HIN:=hQ hin
    have HBI:=hQ hbi
    have m3:wr.cell? ⟨w0.heap.size + 1,3,none⟩ = some _:=Qaa h1 3 _ rfl
    have mbl:=Qab h1
    have mfr:=Lib.frozen_of_heap h1
    have k3:=Qaa h0 3 _ rfl
    have k0:=Qaa h0 0 _ rfl
    have k1:=Qaa h0 1 _ rfl
    have tbl:=Qab h0
    clear hin hbi h0 h1
    by_cases hdl:d < t.kids.length
    ·obtain ⟨k,hk⟩:∃ k,t.kids[d]? = some k:=⟨_,xF hdl⟩
     obtain ⟨kb,ko,hua⟩:∃ b off,uka = some ⟨b,off,none⟩:=HU.out.addr.resolve_left (by omega)
     subst hua
     have HWR:=hQ (HBR.out.trans (HBI.out.mono HBR.out.size))
     obtain ⟨v,e0,e1,e2,e3,hv⟩:=(HU.out.keep (HBI.out.mono (xA _))).at rfl hk
     obtain ⟨v1,v2,v3,v4⟩:=hv.kl
     have HV:=hQ hv
     have HK:=hQ hk
     have HOK:=hQ (def_shape HZ.out HG.out HT.out hk)
     have el:=xK wr _ e0
     have hd0:(0:Int) ≤ (d:Int):=by omega
     have hd1:(d:Int) < (t.kids.length:Int):=by omega
     have hd2:(d:Int) + 1 ≤ 1001:=by omega
     obtain ⟨vs,hlen,hrow,hts⟩:=HIN.out
     have HLEN:=hQ hlen
     have HROW:=hQ hrow
     have HTR:=hQ hts
     have hul:us.length = d:=by rw [HUS.out,List.length_map,List.length_take];omega
     have HM1:=hQ (show us.length + 1 ≤ maxLen from by unfold maxLen;omega)
     have HM2:=hQ (show (us.length + 1) * 72 ≤ 140737488355328 from by omega)
     have HJ:=hQ hul
     clear hlen hrow hts hul hv hk
     obtain ⟨dk,dx,dla,dll,dlc,dka,dkl,dkc⟩:=v
     simp only at v1 v2 v3 v4
     subst v1 v2 v3 v4
     by_cases h3:k.kind = 3
     ·have q3:(k.kind == 3) = true:=by simp [h3]
      obtain ⟨a,ha,ha1,ha2⟩:=alias_kid HOK.out.1 h3
      have HA:=hQ ha
      have haj:k.kids[0]? = some a:=by rw [ha];rfl
      have hkl1:k.kids.length = 1:=by rw [ha];rfl
      obtain ⟨ab,ao,hdka⟩:∃ b off,dka = some ⟨b,off,none⟩:=HV.out.addr.resolve_left (by omega)
      subst hdka
      obtain ⟨x,f0,f1,f2,f3,hx⟩:=HV.out.at rfl haj
      simp only [Nat.zero_mul,Nat.add_zero] at f0 f1 f2 f3
      have fl:=xK wr _ f0
      have HW2:=hQ (Qcl wr (trO ⟨k.kind,k.text,dla,k.leads.length,dlc,some ⟨ab,ao,none⟩,k.kids.length,dkc⟩) twoO)
      have DX0:=hQ (Qb6 wr (trO ⟨k.kind,k.text,dla,k.leads.length,dlc,some ⟨ab,ao,none⟩,k.kids.length,dkc⟩) twoO).1
      have HC:=hQ (core_any _ (fun b=>b < w.heap.size) a x _ (xA _) (fun b hb=>xE hb (Nat.le_trans HWR.out.size HW2.out.size)) (hx.keep HW2.out) ha2 ha1 (by have:=Qdu haj;have:=HOK.out.2;omega))
      have H3:=hQ h3
      have hi0:(0:Int) < (k.kids.length:Int):=by omega
      clear ha ha1 ha2 haj hx h3 hkl1
      go_wp2_with (first
       | (go_at_call 26;refine HC.out.mono ?_;rintro e w5 ⟨y,rfl,hy,hb5⟩;have HY:=hQ hy;have HB5:=hQ (HW2.out.trans (hb5.mono HW2.out.size));have g1:=(HB5.out.block (w0.heap.size + 1) mbl).trans H1.out;have g0:=box_after hb5;clear hy hb5 m3 mbl mfr e0 e1 e2 e3 f0 f1 f2 f3;have m3:w5.cell? ⟨w0.heap.size + 1,3,none⟩ = some _:=Qaa g1 3 _ rfl;have mbl:=Qab g1;have mfr:=Lib.frozen_of_heap g1;have e0:w5.cell? ⟨wr.heap.size,0,none⟩ = some (.int .i64 k.kind):=Qaa g0 0 _ rfl;have e1:w5.cell? ⟨wr.heap.size,1,none⟩ = some (.string k.text):=Qaa g0 1 _ rfl;have dbl:=Qab g0;have mb2:=Nat.lt_of_succ_lt mbl;have mb3:=Nat.lt_succ_of_lt mb2;clear g0 g1;have HWK:=hQ (Qd8 HB5.out (trO y) (oneO y) (defO k.kind k.text (w5.heap.size + 1) 1));have HRW:=hQ (Qd9 HROW.out HWK.out);have HNW:=hQ (three_news w5 (trO y) (oneO y) k.kind k.text);have HSZ:=hQ (show w0.heap.size + 2 ≤ (((w5.alloc (trO y)).alloc (oneO y)).alloc (defO k.kind k.text (w5.heap.size + 1) 1)).heap.size from by rw [Qdj];have:=HB5.out.size;omega))
       | (at_builtin;refine Qdg _ rfl _ _ 25 rfl (w0.heap.size + 2) 27 it _ 4 72 Try.underlying25 hit ht0 ht1 ht2 rfl (by decide) _ us.length (Qaf vs) rfl HRW.out ⟨w5.heap.size + 2,0,none⟩ 1 1 (TV.cells ⟨k.kind,k.text,none,0,0,some ⟨w5.heap.size + 1,0,none⟩,1,1⟩) rfl rfl HNW.out (Qek _) (by decide) HM1.out HM2.out HSZ.out ?_;intro g6 c6 w6 hown6 hk6 hg6 hlt6;have HO6:=hQ hown6;have HK6:=hQ hk6;have HG6:=hQ hg6;have x1:=keeps_box HRW.out HK6.out HWK.out H1.out;clear hown6 hk6 hg6 hlt6 m3 mbl mfr;have m3:w6.cell? ⟨w0.heap.size + 1,3,none⟩ = some _:=Qaa x1 3 _ rfl;have mbl:=Qab x1;have mfr:=Lib.frozen_of_heap x1;clear x1))
      go_roundw
      case measure=>first | (simp [intOf];done) | (simp [intOf];omega)
      case rel=>exact in_next HUS.out HK.out HBR.out.size H0.out H1.out HBI.out HWK.out HLEN.out HRW.out (fun i k u hk hu=>TrAt.move (fun b hb=>⟨hb.1,xE hb.2.1 HWK.out.size,hb.2.2⟩) (fun b _ hl=>HWK.out.block b hl) _ _ (HTR.out i k u hk hu)) (alias_y _ _ H3.out HA.out HBR.out.size (Qab H1.out) HIN.out.lt HB5.out HY.out) HO6.out HK6.out HG6.out
     ·have q3:=beqF h3
      have HOT3:=hQ (Qcl wr (trO ⟨k.kind,k.text,dla,k.leads.length,dlc,dka,k.kids.length,dkc⟩) twoO)
      have HWK:=hQ (HOT3.out.alloc HOT3.out.size (defO k.kind k.text (wr.heap.size + 1) 2))
      have HRW:=hQ (show ((((wr.alloc (trO ⟨k.kind,k.text,dla,k.leads.length,dlc,dka,k.kids.length,dkc⟩)).alloc twoO).alloc (defO k.kind k.text (wr.heap.size + 1) 2)).ownsRow (w0.heap.size + 2) 27 4 (.slice MA us.length mc) us.length (Qaf vs)) from Qd9 HROW.out HWK.out)
      have HNW:=hQ (show ∀ (q:Nat) (x:Value),(TV.cells ⟨k.kind,k.text,none,0,0,some ⟨wr.heap.size + 1,0,none⟩,2,2⟩)[q]? = some x → (((wr.alloc (trO ⟨k.kind,k.text,dla,k.leads.length,dlc,dka,k.kids.length,dkc⟩)).alloc twoO).alloc (defO k.kind k.text (wr.heap.size + 1) 2)).cell? ((⟨wr.heap.size + 2,0,none⟩:Addr).add q) = some x from by
       have h:=World.news_of_block (xH ((wr.alloc (trO ⟨k.kind,k.text,dla,k.leads.length,dlc,dka,k.kids.length,dkc⟩)).alloc twoO) (defO k.kind k.text (wr.heap.size + 1) 2))
       rw [xI,xI] at h
       exact h)
      have HSZ:=hQ (show w0.heap.size + 2 ≤ (((wr.alloc (trO ⟨k.kind,k.text,dla,k.leads.length,dlc,dka,k.kids.length,dkc⟩)).alloc twoO).alloc (defO k.kind k.text (wr.heap.size + 1) 2)).heap.size from by rw [xI,xI,xI];omega)
      have H3:=hQ h3
      clear h3
      go_wp2_with (at_builtin;refine Qdg _ rfl _ _ 25 rfl (w0.heap.size + 2) 27 it _ 4 72 Try.underlying25 hit ht0 ht1 ht2 rfl (by decide) _ us.length (Qaf vs) rfl HRW.out ⟨wr.heap.size + 2,0,none⟩ 1 1 (TV.cells ⟨k.kind,k.text,none,0,0,some ⟨wr.heap.size + 1,0,none⟩,2,2⟩) rfl rfl HNW.out (Qek _) (by decide) HM1.out HM2.out HSZ.out ?_;intro g6 c6 w6 hown6 hk6 hg6 hlt6;have HO6:=hQ hown6;have HK6:=hQ hk6;have HG6:=hQ hg6;have x1:=keeps_box HRW.out HK6.out HWK.out H1.out;clear hown6 hk6 hg6 hlt6 m3 mbl mfr;have m3:w6.cell? ⟨w0.heap.size + 1,3,none⟩ = some _:=Qaa x1 3 _ rfl;have mbl:=Qab x1;have mfr:=Lib.frozen_of_heap x1;clear x1)
      go_roundw
      case measure=>first | (simp [intOf];done) | (simp [intOf];omega)
      case rel=>exact in_next HUS.out HK.out HBR.out.size H0.out H1.out HBI.out HWK.out HLEN.out HRW.out (fun i k u hk hu=>TrAt.move (fun b hb=>⟨hb.1,xE hb.2.1 HWK.out.size,hb.2.2⟩) (fun b _ hl=>HWK.out.block b hl) _ _ (HTR.out i k u hk hu)) (func_y _ _ H3.out (Qab H1.out) (fun b hb=>(HIN.out.lt b hb).2)) HO6.out HK6.out HG6.out
    ·obtain rfl:d = t.kids.length:=by omega
     have HW3:=hQ (show t.kids.take t.kids.length = t.kids from List.take_length)
     have HUS2:=hQ (show us = t.kids.map Qfh from HUS.out.trans (by rw [HW3.out]))
     have hk2:=HK2.out
     obtain ⟨vs,hlen,hrow,htt⟩:=HOT.out
     have HLEN:=hQ hlen
     have HWK:=hQ (show Below w0.heap.size w0 (wr.alloc (modO t.kind t.text (.slice MA us.length mc))) from HBI.out.alloc HBI.out.size _)
     have HRW:=hQ (Qd9 hrow HWK.out)
     have HTR:=hQ htt
     have hul:ts.length = j:=by rw [HTS.out,List.length_map,List.length_take];omega
     have HM1:=hQ (show ts.length + 1 ≤ maxLen from by unfold maxLen;omega)
     have HM2:=hQ (show (ts.length + 1) * 72 ≤ 140737488355328 from by omega)
     have HNW:=hQ (World.news_of_block (xH wr (modO t.kind t.text (.slice MA us.length mc))))
     have HSZ:=hQ (show w.heap.size ≤ (wr.alloc (modO t.kind t.text (.slice MA us.length mc))).heap.size from Nat.le_trans HBR.out.size HWK.out.size)
     have m0:wr.cell? ⟨w0.heap.size + 1,0,none⟩ = some _:=Qaa H1.out 0 _ rfl
     have m1:wr.cell? ⟨w0.heap.size + 1,1,none⟩ = some _:=Qaa H1.out 1 _ rfl
     have m2:wr.cell? ⟨w0.heap.size + 1,2,none⟩ = some _:=Qaa H1.out 2 _ rfl
     clear hlen hrow htt hul
     go_wp2_with (at_builtin;refine Qdg _ rfl _ _ 25 rfl w.heap.size 27 it _ 4 72 Try.underlying25 hit ht0 ht1 ht2 rfl (by decide) _ ts.length (Qaf vs) rfl HRW.out ⟨wr.heap.size,0,none⟩ 1 1 (TV.cells ⟨t.kind,t.text,none,0,0,MA,us.length,mc⟩) rfl rfl HNW.out (Qek _) (by decide) HM1.out HM2.out HSZ.out ?_;intro g6 c6 w6 hown6 hk6 hg6 hlt6;have HO6:=hQ hown6;have HK6:=hQ hk6;have HG6:=hQ hg6;clear hown6 hk6 hg6 hlt6)
     go_roundw
     case measure=>first | (simp [intOf];done) | (simp [intOf];omega)
     case rel=>exact out_next HTS.out HUS2.out HT.out HBR.out HBI.out (Qbk wr _) HLEN.out HRW.out (fun b hb=>(HOT.out.lt b hb).2) (fun i k u hk hu=>TrAt.move (fun b hb=>⟨hb.1,xE hb.2.1 HWK.out.size,hb.2.2⟩) (fun b _ hl=>HWK.out.block b hl) _ _ (HTR.out i k u hk hu)) HIN.out HO6.out HK6.out HG6.out
  ·obtain rfl:j = ps.length:=by omega
   have HW3:=hQ (show ps.take ps.length = ps from List.take_length)
   have hl3:ts.length = ps.length:=by rw [HTS.out,HW3.out,List.length_map]
   have HE:=hQ (show ts = Qfi ps from HTS.out.trans (by rw [HW3.out];rfl))
   have HL3:=hQ hl3
   clear hl3
   go_wp2
   go_ret
   refine ⟨QA,qc,by rw [HL3.out];first | rfl | simp,?_,HBR.out⟩
   have h:=HOT.out
   rw [HE.out,show (Qfi ps).length = ps.length from by rw [← HE.out];exact HL3.out] at h
   exact h
end Go.Proofs.Ytclkilljmdkfaaa
