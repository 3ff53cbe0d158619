/- Part 47 -/
import Derived.Test.YtfjpemdejoejbaaGreatTt26
set_option maxRecDepth 100000
set_option maxHeartbeats 4000000
namespace Go.Proofs.YtfjpemdejoejbaaGreat
open Go.RowKit Go.Shelf
mutual
def Qgw:Tr→Tr
 | .mk k x _ ks=>.mk k x [] (Qrm ks)
def Qrm:List Tr→List Tr
 | []=>[]
 | t :: r=>Qgw t :: Qrm r
end
theorem Qpu:(l:List Tr)→Qrm l=l.map Qgw
 | []=>rfl
 | t :: r=>by unfold Qrm;rw [Qpu r];rfl
theorem Qyo {S:Nat→Prop} {w:World} {t:Tr} {c:Nat} {kd:Int} {x:ByteArray} {ka:Option Addr} (h1:kd=t.kind) (h2:x=t.text) (h6:t.kids≠[]→∃ b off,ka=some ⟨b,off,none⟩∧S b∧TrsAt S w b off (t.kids.map Qgw)) (h7:t.kids.length≤c):TrAt S w (Qgw t) ⟨kd,x,none,0,0,ka,t.kids.length,c⟩:=by
 cases t with
 | mk a b l ks =>
  unfold Qgw;rw [Qpu];refine TrAt.make h1 h2 rfl (List.length_map ..).symm (fun h=>absurd rfl h) (fun h=>?_) ⟨xA _,h7⟩;exact h6 (fun e=>h (by rw [show ks = [] from e];rfl))
theorem Zd2 {w:World} {B:Nat} {e:TypeId} {size n:Nat} {v:Value} {xs:List Value} (h:w.ownsRow B e size v n xs) {b o:Nat} {u:Value} (hb:b<B):(w.setCell ⟨b,o,none⟩ u).ownsRow B e size v n xs :=
 ⟨h.1,h.2.imp id fun ⟨g,cap,cur,hv,hB,hh,r⟩=>⟨g,cap,cur,hv,hB,(Qcy (by omega)).trans hh,r⟩⟩
theorem Zd3 {w w1:World} {base:Nat} {e:TypeId} {size n:Nat} {v:Value} {xs:List Value} (h:w.ownsRow base e size v n xs) (hb:Below w.heap.size w w1):w1.ownsRow base e size v n xs :=
 ⟨h.1,h.2.imp id fun ⟨g,cap,cur,hv,hB,hh,r⟩=>⟨g,cap,cur,hv,hB,(hb.block g (Qab hh)).trans hh,r⟩⟩
def RbAt (t:Tr) (v:TV) (w:World) (i:Value) (wr:World):Prop :=
 ∃ (j:Nat) (vs:List TV) (ka:Option Addr) (kc:Nat),i = .int .i64 j∧j≤t.kids.length∧vs.length=j∧wr.heap[w.heap.size]? = some (trO v)∧wr.heap[w.heap.size+1]? = some (.cells #[.int .i64 0,.string ⟨#[]⟩,.slice none 0 0,.slice none 0 0] 25 (0,0)) ∧
  wr.heap[w.heap.size+2]? = some (.cells #[.int .i64 v.kind,.string v.text,.slice none 0 0,.slice ka j kc] 25 (0,0))∧wr.ownsRow (w.heap.size+3) 25 4 (.slice ka j kc) j (Qaf vs) ∧
  (∀ (i:Nat) (k:Tr) (u:TV),t.kids[i]? = some k→vs[i]? = some u→TrAt (fun b=>w.heap.size+3≤b∧b<wr.heap.size∧(Value.slice ka j kc).ownBlock≠some b) wr (Qgw k) u)∧Below w.heap.size w wr
theorem Zd4 {t k:Tr} {v y:TV} {w wr w5 w6:World} {j g cap kc:Nat} {vs:List TV} {ka:Option Addr} {o:Obj} (hk:t.kids[j]? = some k) (hvl:vs.length=j)
  (h0:wr.heap[w.heap.size]? = some (trO v)) (h1:wr.heap[w.heap.size+1]? = some (.cells #[.int .i64 0,.string ⟨#[]⟩,.slice none 0 0,.slice none 0 0] 25 (0,0)))
  (h2:wr.heap[w.heap.size+2]? = some (.cells #[.int .i64 v.kind,.string v.text,.slice none 0 0,.slice ka j kc] 25 (0,0))) (how:wr.ownsRow (w.heap.size+3) 25 4 (.slice ka j kc) j (Qaf vs))
  (hts:∀ (i:Nat) (k:Tr) (u:TV),t.kids[i]? = some k→vs[i]? = some u→TrAt (fun b=>w.heap.size+3≤b∧b<wr.heap.size∧(Value.slice ka j kc).ownBlock≠some b) wr (Qgw k) u) (hb:Below w.heap.size w wr)
  (hb5:Below wr.heap.size wr w5) (hty:TrAt (fun b=>wr.heap.size≤b∧b<w5.heap.size) w5 (Qgw k) y) (ho:w6.ownsRow (w.heap.size+3) 25 4 (.slice (some ⟨g,0,none⟩) (j+1) cap) (j+1) (Qaf vs ++ y.cells))
  (hg:(w5.alloc o).grownBy w6 (Value.slice ka j kc).ownBlock) (hat:(Value.slice ka j kc).ownBlock=some g∨g=w5.heap.size+1) :
  RbAt t v w (.int .i64 ((j:Int)+1)) (w6.setCell ⟨w.heap.size+2,3,none⟩ (.slice (some ⟨g,0,none⟩) ((j+1:Nat):Nat) cap)):=by
 have hlt:=(xP.1 hk).1;have hrow:∀ b,(Value.slice ka j kc).ownBlock=some b→w.heap.size+3≤b∧b<wr.heap.size:=how.lt;have hs5:=hb5.size;have hs6:w5.heap.size+1≤w6.heap.size:=by have:=hg.size;rwa [xI] at this
 have hsz:(w6.setCell ⟨w.heap.size+2,3,none⟩ (.slice (some ⟨g,0,none⟩) ((j+1:Nat):Nat) cap)).heap.size=w6.heap.size:=by simp [World.setCell]
 have h56:∀ b,b<w5.heap.size→(Value.slice ka j kc).ownBlock≠some b→w6.heap[b]? = w5.heap[b]?:=fun b hl hn=>(hg.block b (by rw [xI];omega) (Ne.symm hn)).trans (Below.heap_alloc w5 _ b hl)
 have hr6:∀ b,b<wr.heap.size→(Value.slice ka j kc).ownBlock≠some b→w6.heap[b]? = wr.heap[b]?:=fun b hl hn=>(h56 b (by omega) hn).trans (hb5.block b hl)
 have hlow:∀ b,b<w.heap.size+3→(Value.slice ka j kc).ownBlock≠some b:=fun b hl e=>by have:=hrow b e;omega
 have hge:∀ b,(Value.slice ka j kc).ownBlock≠some b→b<w5.heap.size→b≠g:=fun b hn hl e=>by
  rcases hat with h | h
  ·exact hn (by rw [h,e])
  ·omega
 have e6:Below w.heap.size wr w6:=⟨(hg.os.trans rfl).trans hb5.os,(hg.tape.trans rfl).trans hb5.tape,(hg.output.trans rfl).trans hb5.output,by omega,fun b hl=>hr6 b (by have:=hb.size;omega) (hlow b (by omega))⟩
 refine ⟨j+1,vs ++ [y],some ⟨g,0,none⟩,cap,by go_num,by omega,by simp [hvl],(Qcy (by omega)).trans ((hr6 _ (Qab h0) (hlow _ (by omega))).trans h0),(Qcy (by omega)).trans ((hr6 _ (Qab h1) (hlow _ (by omega))).trans h1),Qa5 ((hr6 _ (Qab h2) (hlow _ (by omega))).trans h2) rfl,Zd2 ?_ (by omega),fun i k' u hk' hu=>?_,(hb.trans e6).setCell (p:=⟨w.heap.size+2,3,none⟩) (by show w.heap.size≤w.heap.size+2;omega) _⟩
 ·have e:Qaf (vs ++ [y])=Qaf vs ++ y.cells:=by unfold Qaf;simp
  rw [e];exact ho
 ·by_cases hi:i<j
  ·rw [yB (by omega)] at hu;refine TrAt.move (fun b hb'=>⟨hb'.1,by rw [hsz];omega,fun e=>?_⟩) (fun b hb' hl=>(Qcy (by omega)).trans (hr6 b hl hb'.2.2)) _ _ (hts i k' u hk' hu);have:g=b:=by simpa [Value.ownBlock] using e
   exact hge b hb'.2.2 (by omega) this.symm
  ·rw [xX (by omega)] at hu
   have hij:i=j:=by
    have h3:=(xP.1 hu).1;simp at h3
    omega
   subst hij;rw [hvl,Nat.sub_self] at hu;simp at hu
   subst hu;have:=hk.symm.trans hk'
   injection this with this;subst this;have hw3:w.heap.size+3≤wr.heap.size:=by have:=Qab h2;omega
   have hn:∀ b,wr.heap.size≤b→(Value.slice ka i kc).ownBlock≠some b:=fun b hl e=>by have:=hrow b e;omega
   refine TrAt.move (fun b hb'=>⟨by omega,by rw [hsz];omega,fun e=>?_⟩) (fun b hb' hl=>(Qcy (by omega)).trans (h56 b hl (hn b hb'.1))) _ _ hty;have:g=b:=by simpa [Value.ownBlock] using e
   exact hge b (hn b hb'.1) hb'.2 this.symm
theorem Zfi {w wr w5 w6:World} {j kc:Nat} {ka:Option Addr} {xs:List Value} {o x:Obj} (how:wr.ownsRow (w.heap.size+3) 25 4 (.slice ka j kc) j xs) (h2:wr.heap[w.heap.size+2]? = some x) (hb5:Below wr.heap.size wr w5) (hg:(w5.alloc o).grownBy w6 (Value.slice ka j kc).ownBlock):w6.heap[w.heap.size+2]? = some x:=by
 have hl:=Qab h2;have h5:=hb5.size;exact (hg.block _ (by rw [xI];omega) (fun e=>by have:=(how.lt _ e.symm).1;omega)).trans ((Below.heap_alloc w5 _ _ (by omega)).trans ((hb5.block _ hl).trans h2))
theorem Zbl (w:World) (t:Tr) (v:TV):RbAt t v w (.int .i64 0) (((w.alloc (trO v)).alloc (.cells #[.int .i64 0,.string ⟨#[]⟩,.slice none 0 0,.slice none 0 0] 25)).alloc (.cells #[.int .i64 v.kind,.string v.text,.slice none 0 0,.slice none 0 0] 25)):=by
 have z1:(w.alloc (trO v)).heap.size=w.heap.size+1:=by simp
 have z2:((w.alloc (trO v)).alloc (.cells #[.int .i64 0,.string ⟨#[]⟩,.slice none 0 0,.slice none 0 0] 25)).heap.size=w.heap.size+2:=by simp
 refine ⟨0,[],none,0,rfl,xZ _,rfl,?_,?_,?_,World.ownsRow_nil _ _ _ _,fun i k u _ h=>by simp at h,?_⟩
 ·exact (Below.heap_alloc _ _ _ (by omega)).trans ((Below.heap_alloc _ _ _ (by omega)).trans (xH w _))
 ·refine (Below.heap_alloc _ _ _ (by omega)).trans ?_;rw [←z1];exact xH _ _
 ·rw [←z2];exact xH _ _
 ·exact (((xC w.heap.size w).alloc (xA _) _).alloc (by omega) _).alloc (by omega) _
theorem Qpv (N:Nat):∀ (S:Nat→Prop) (t:Tr) (v:TV) (w:World),SizeOf.sizeOf t≤N→TrAt S w t v→Qe9 t=true →
  Calls Tryz.prog 60 #[.agg #[.int .i64 v.kind,.string v.text,.slice v.la v.ll v.lc,.slice v.ka v.kl v.kc]] w fun e w'=>∃ u:TV,e = .returned (.agg #[.int .i64 u.kind,.string u.text,.slice u.la u.ll u.lc,.slice u.ka u.kl u.kc])∧TrAt (fun k=>w.heap.size≤k∧k<w'.heap.size) w' (Qgw t) u∧Below w.heap.size w w':=by
 induction N with
 | zero=>intro S t v w h;have:=Qf7 t;omega
 | succ N ih =>
  intro S t v w hN h hz;have HIH:=hQ ih;obtain ⟨hf1,hf2,hf3⟩:=Qbo hz;have HF2:=hQ hf2;have HF3:=hQ hf3;have HN:=hQ hN;obtain ⟨e1,e2,e3,e4⟩:=h.kl;have HT:=hQ h;obtain ⟨vk,vx,vla,vll,vlc,vka,vkl,vkc⟩:=v;simp only at e1 e2 e3 e4;subst e1 e2;have HE3:=hQ e3;have HE4:=hQ e4;have hw1:=(xC w.heap.size w).alloc (xA _) (trO ⟨vk,vx,vla,t.leads.length,vlc,vka,t.kids.length,vkc⟩);have hw2:=hw1.alloc (by rw [xI];omega) (.cells #[.int .i64 0,.string ⟨#[]⟩,.slice none 0 0,.slice none 0 0] 25);have hw3:=hw2.alloc (by rw [xI,xI];omega) (.cells #[.int .i64 vk,.string vx,.slice none 0 0,.slice none 0 0] 25);have HB0:=hQ hw3;have HK0:=hQ (xH w (trO ⟨vk,vx,vla,t.leads.length,vlc,vka,t.kids.length,vkc⟩));obtain ⟨it,hit,ht0,ht1,ht2⟩:=info_parts Qdv;have k0:=Qaa HK0.out 0 _ rfl;have k1:=Qaa HK0.out 1 _ rfl;have k2:=Qaa HK0.out 2 _ rfl;have k3:=Qaa HK0.out 3 _ rfl;clear ih hf1 hf2 hf3 h hz hN hw1 hw2 hw3 e3 e4
  go_enter Tryz.func60,Tryz.ntmps60
  go_wp2_with fail
  have HS0:=hQ (show (((w.alloc (trO ⟨vk,vx,vla,t.leads.length,vlc,vka,t.kids.length,vkc⟩)).alloc (.cells #[.int .i64 0,.string ⟨#[]⟩,.slice none 0 0,.slice none 0 0] 25)).alloc (.cells #[.int .i64 vk,.string vx,.slice none 0 0,.slice none 0 0] 25)).heap.size=w.heap.size+3 from by simp);clear k0 k1 k2 k3
  go_loopw [4] (fun i wr=>RbAt t ⟨vk,vx,vla,t.leads.length,vlc,vka,t.kids.length,vkc⟩ w i wr) (fun i _=>t.kids.length-(intOf i).toNat)
  case atStart=>exact Zbl w t ⟨vk,vx,vla,t.leads.length,vlc,vka,t.kids.length,vkc⟩
  case round =>
   obtain ⟨j,vs,ka,kc,rfl,hj,hvl,h0,h1,h2,how,hts,hb⟩:=hrel;have HVL:=hQ hvl;have H0:=hQ h0;have H1:=hQ h1;have H2:=hQ h2;have HOW:=hQ how;have HTS:=hQ hts;have HBR:=hQ hb;clear hvl how hts hb
   by_cases hlt:j<t.kids.length
   ·obtain ⟨k,hk⟩:∃ k,t.kids[j]? = some k:=⟨_,xF hlt⟩;obtain ⟨b,off,hka⟩:∃ b off,vka=some ⟨b,off,none⟩:=HT.out.addr.resolve_left (by omega);subst hka;have hut:=(HT.out.keep HBR.out).at rfl hk;obtain ⟨u,c0,c1,c2,c3,hu⟩:=hut;have HU:=hQ hu;have HK:=hQ hk;have HNK:=hQ (show SizeOf.sizeOf k≤N from by have:=Qbn hk;have:=HN.out;omega);have HFK:=hQ (HF3.out j k hk);have k3:=Qaa h0 3 _ rfl;have x3:wr.cell? ⟨w.heap.size+1+1,3,none⟩=some (.slice ka j kc):=Qaa h2 3 _ rfl;have xl:w.heap.size+1+1<wr.heap.size:=Qab h2;have xf:wr.frozen? ⟨w.heap.size+1+1,3,none⟩=false:=xL h2 _;have hj0:(0:Int)≤(j:Int):=by omega
    have hj1:(j:Int)<(t.kids.length:Int):=by omega
    clear hk hu h0 h1 h2;have HBA:=hQ ((xC wr.heap.size wr).drew);have HJ:=hQ (show j+1≤1900000000000 from by have:=HF2.out;omega);have HB1:=hQ (show j+1≤maxLen from by have:=HJ.out;unfold maxLen;omega);have HB2:=hQ (show (j+1)*72≤140737488355328 from by have:=HJ.out;omega);have HB3:=hQ (show w.heap.size+3≤wr.heap.size from xl);go_wp2_with fail
    go_region_law (first
     | (go_simp;go_at_call 60;refine (HIH.out S k u _ HNK.out (HU.out.keep HBA.out) HFK.out).mono ?_;rintro e w5 ⟨y,rfl,hty,hb5⟩;have HTY:=hQ hty;have HB5:=hQ (HBA.out.trans hb5);have HO5:=hQ (Zd3 HOW.out HB5.out);have g2:=(HB5.out.block _ xl).trans H2.out;clear hty hb5 c0 c1 c2 c3 k3 x3 xl xf;have x3:w5.cell? ⟨w.heap.size+1+1,3,none⟩=some (.slice ka j kc):=Qaa g2 3 _ rfl;have xl:w.heap.size+1+1<w5.heap.size:=Qab g2;have xf:w5.frozen? ⟨w.heap.size+1+1,3,none⟩=false:=xL g2 _;clear g2)
     | (refine step_append_lies _ (by rfl) _ _ _ (by rfl) (w.heap.size+3) 25 it _ 4 72 Tryz.underlying22 hit ht0 ht1 ht2 rfl (by decide) (.slice ka j kc) j (Qaf vs) (by rfl) (HO5.out.alloc _) ⟨w5.heap.size,0,none⟩ 1 1 y.cells (by rfl) (by rfl) (xM (cs:=y.cells.toArray) (t:=25) (fr:=(0,0)) (xH w5 _)) (Qfx y) (by decide) HB1.out HB2.out (by rw [xI];have:=HB3.out;have:=HB5.out.size;omega) (w5.heap.size+1) (by simp) ?_;intro g cap w6 ho6 hg6 hat6 hlt6;have HO6:=hQ ho6;have HG6:=hQ hg6;have HAT6:=hQ hat6;have hx6:=Zfi HOW.out H2.out HB5.out hg6;clear ho6 hg6 hat6 hlt6 x3 xl xf;have x3:w6.cell? ⟨w.heap.size+1+1,3,none⟩=some (.slice ka j kc):=Qaa hx6 3 _ rfl;have xl:w.heap.size+1+1<w6.heap.size:=Qab hx6;have xf:w6.frozen? ⟨w.heap.size+1+1,3,none⟩=false:=xL hx6 _;clear hx6))
    all_goals
     have hj2:(j:Int)+1≤1900000000001:=by have:=HF2.out;omega
     go_wp2
     go_roundw
     case measure=>simp [intOf];omega
     case rel=>exact Zd4 HK.out HVL.out H0.out H1.out H2.out HOW.out HTS.out HBR.out HB5.out HTY.out HO6.out HG6.out HAT6.out
   ·have hjn:j=t.kids.length:=by omega
    subst hjn;have k3:=Qaa h0 3 _ rfl;have tbl:=Qab h0;have r0:=Qaa h1 0 _ rfl;have r1:=Qaa h1 1 _ rfl;have r2:=Qaa h1 2 _ rfl;have r3:=Qaa h1 3 _ rfl;have rbl:=Qab h1;have rrf:=xL h1;have x0:wr.cell? ⟨w.heap.size+1+1,0,none⟩=some (.int .i64 vk):=Qaa h2 0 _ rfl;have x1:wr.cell? ⟨w.heap.size+1+1,1,none⟩=some (.string vx):=Qaa h2 1 _ rfl;have x2:wr.cell? ⟨w.heap.size+1+1,2,none⟩=some (.slice none 0 0):=Qaa h2 2 _ rfl;have x3:wr.cell? ⟨w.heap.size+1+1,3,none⟩=some (.slice ka t.kids.length kc):=Qaa h2 3 _ rfl;have xl:w.heap.size+1+1<wr.heap.size:=Qab h2;clear h0 h1 h2
    go_wp2
    refine bodyPost_ret (v:=.agg #[.int .i64 vk,.string vx,.slice none 0 0,.slice ka t.kids.length kc]) (by simp [results,Tryz.results60,go_sem, *]) rfl ?_
    refine ⟨⟨vk,vx,none,0,0,ka,t.kids.length,kc⟩,rfl,?_,?_⟩
    ·have hsz:(Qhu wr (w.heap.size+1) ⟨vk,vx,none,0,0,ka,t.kids.length,kc⟩).heap.size=wr.heap.size:=Qei _ _ _
     show TrAt _ (Qhu wr (w.heap.size+1) ⟨vk,vx,none,0,0,ka,t.kids.length,kc⟩) (Qgw t) _
     have hrow:=HOW.out.lt;refine Qyo HE3.out HE4.out (fun hne=>?_) (Qm9 HOW.out);have hn:0<t.kids.length:=List.length_pos_iff.2 hne;obtain ⟨g,cap,hv,hg1,hg2⟩:=World.ownsRow.form HOW.out hn;injection hv with hv1 hv2 hv3;subst hv1 hv3;have hcs:=HOW.out.cells (g:=g) rfl;have hadd:∀ j,((⟨g,0,none⟩:Addr).add j)=⟨g,j,none⟩:=fun j=>by unfold Addr.add;split <;> simp_all
     have hgc:∀ (j:Nat) (x:Value),(Qaf vs)[j]? = some x→(Qhu wr (w.heap.size+1) ⟨vk,vx,none,0,0,some ⟨g,0,none⟩,t.kids.length,kc⟩).cell? ⟨g,j,none⟩=some x:=fun j x hx=>by
      have h:=hcs j x hx;rw [hadd] at h;exact (xJ (a:=⟨g,j,none⟩) (Qca _ (by show g≠_;omega))).trans h
     refine ⟨g,0,rfl,⟨by omega,xE hg2 (Nat.le_of_eq hsz.symm)⟩,TrsAt.of (t.kids.map Qgw) 0 (fun i k' hk'=>?_)⟩;obtain ⟨k,hk,rfl⟩:∃ k,t.kids[i]? = some k∧Qgw k=k':=by rw [List.getElem?_map] at hk';exact Option.map_eq_some_iff.1 hk'
     have hi:=(xP.1 hk).1;obtain ⟨u,hu⟩:∃ u,vs[i]? = some u:=⟨_,xF (by rw [HVL.out];exact hi)⟩;obtain ⟨q0,q1,q2,q3⟩:=Qgm vs i u hu
     refine ⟨u,?_,?_,?_,?_,TrAt.move (fun b hb=>⟨by omega,xE hb.2.1 (Nat.le_of_eq hsz.symm)⟩) (fun b hb _=>Qca _ (by omega)) _ _ (HTS.out i k u hk hu)⟩
     ·rw [Nat.zero_add];exact hgc _ _ q0
     ·rw [Nat.zero_add];exact hgc _ _ q1
     ·rw [Nat.zero_add];exact hgc _ _ q2
     ·rw [Nat.zero_add];exact hgc _ _ q3
    ·exact HBR.out.trans ((Qb6 wr (w.heap.size+1) ⟨vk,vx,none,0,0,ka,t.kids.length,kc⟩).mono (Nat.le_succ _))
end Go.Proofs.YtfjpemdejoejbaaGreat
