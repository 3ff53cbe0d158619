/- Part 38 -/
import Derived.Test.YtfjpemdejoejbaaGreatSg37
set_option maxRecDepth 100000
set_option maxHeartbeats 4000000
namespace Go.Proofs.YtfjpemdejoejbaaGreat
open Go.RowKit Go.Shelf
theorem OwnT.make {w:World} {t:Tr} {v:TV} {lo hi g:Nat} (h1:v.kind=t.kind) (h2:v.text=t.text) (h3:v.ll=t.leads.length) (h4:v.kl=t.kids.length) (h5:v.ll≤v.lc∧v.kl≤v.kc) (h6:lo≤g) (h7:g≤hi) (h8:StrsAt (fun b=>lo≤b∧b<g) w v.la t.leads)
  (h9:t.kids≠[]→v.ka=some ⟨g,0,none⟩∧∃ (cs:Array Value) (us:List TV),w.heap[g]? = some (.cells cs 25 (0,0))∧us.length=t.kids.length∧RowIs cs us∧OwnL w t.kids us (g+1) hi):OwnT w t v lo hi:=by
 cases t
 unfold OwnT;exact ⟨h1,h2,h3,h4,h5,g,h6,h7,h8,h9⟩
def ClOwn (t:Tr) (us:List TV) (g:Nat) (W:World) (i:Value) (wr:World):Prop :=
 ∃ (j:Nat) (vs:List TV) (cs:Array Value),i = .int .i64 j∧j≤t.kids.length∧vs.length=t.kids.length∧(∀ i,j≤i→vs[i]? = us[i]?)∧wr.heap[g]? = some (.cells cs 25 (0,0))∧RowIs cs vs ∧
  OwnL wr (t.kids.take j) (vs.take j) (g+1) wr.heap.size∧Rest1 g W wr
theorem Za7 (N:Nat):∀ (S:Nat→Prop) (t:Tr) (v:TV) (w:World),SizeOf.sizeOf t≤N→TrAt S w t v→Qmn t=true →
  Calls Tryz.prog 80 #[.agg #[.int .i64 v.kind,.string v.text,.slice v.la v.ll v.lc,.slice v.ka v.kl v.kc]] w fun e w'=>∃ u:TV,e = .returned (.agg #[.int .i64 u.kind,.string u.text,.slice u.la u.ll u.lc,.slice u.ka u.kl u.kc])∧OwnT w' t u w.heap.size w'.heap.size∧Below w.heap.size w w':=by
 induction N with
 | zero=>intro S t v w h;have:=Qgu t;omega
 | succ N ih =>
  intro S t v w hN h hz;have HIH:=hQ ih;obtain ⟨hf1,hf2,hf3⟩:=Qih hz;have HF1:=hQ hf1;have HF2:=hQ hf2;have HF3:=hQ hf3;have HN:=hQ hN;obtain ⟨e1,e2,e3,e4⟩:=h.kl;have hb0:=((xC w.heap.size w).alloc (xA _) (trO v)).alloc (by rw [xI];omega) (.cells #[.int .i64 0,.string ⟨#[]⟩,.slice none 0 0,.slice none 0 0] 25);have HB0:=hQ hb0;have HT:=hQ (TrAt.keep (TrAt.low t v h) hb0);obtain ⟨vk,vx,vla,vll,vlc,vka,vkl,vkc⟩:=v;simp only at e1 e2 e3 e4;subst e1 e2;have HE3:=hQ e3;have HE4:=hQ e4;have HX:=hQ (show ((w.alloc (trO ⟨vk,vx,vla,t.leads.length,vlc,vka,t.kids.length,vkc⟩)).alloc (.cells #[.int .i64 0,.string ⟨#[]⟩,.slice none 0 0,.slice none 0 0] 25)).heap[w.heap.size]? = some (trO ⟨vk,vx,vla,t.leads.length,vlc,vka,t.kids.length,vkc⟩) from (((xC (w.alloc (trO ⟨vk,vx,vla,t.leads.length,vlc,vka,t.kids.length,vkc⟩)).heap.size _).alloc (xA _) _).block w.heap.size (by simp)).trans (xH w _));have HR:=hQ (show ((w.alloc (trO ⟨vk,vx,vla,t.leads.length,vlc,vka,t.kids.length,vkc⟩)).alloc (.cells #[.int .i64 0,.string ⟨#[]⟩,.slice none 0 0,.slice none 0 0] 25)).heap[w.heap.size+1]? = some (.cells #[.int .i64 0,.string ⟨#[]⟩,.slice none 0 0,.slice none 0 0] 25 (0,0)) from by rw [←xI w (trO ⟨vk,vx,vla,t.leads.length,vlc,vka,t.kids.length,vkc⟩)];exact xH _ _);obtain ⟨is,his,hs0,hs1,hs2⟩:=info_parts Qcw;obtain ⟨it,hit,ht0,ht1,ht2⟩:=info_parts Qcd;have k2:=Qab HX.out 2 _ rfl;have k3:=Qab HX.out 3 _ rfl;have rf:=xL HX.out;have hbl:=Qaa HX.out;clear ih hf1 hf2 hf3 h hz hN hb0 e3 e4
  go_enter Tryz.func80,Tryz.ntmps80
  go_wp2_with (first
   | (at_builtin;refine Qhu rfl _ _ 23 rfl 9 is _ 1 16 Tryz.underlying23 his hs0 hs1 hs2 rfl (by decide) rfl (A:=vla) (m:=t.leads.length) (c:=vlc) (news:=t.leads.map Value.string) rfl (by simp) HT.out.strsIn.vals (Qhv _) (by have:=HF1.out;omega) (by have:=HF1.out;unfold maxLen;omega) ?_;intro LA w1 hown1 hg1;obtain ⟨la',lc',rfl⟩:=Qet hown1;have HO1:=hQ hown1;have HG1:=hQ (Qgm hg1);have hx1:=(HG1.out.block w.heap.size hbl).trans HX.out;have HB1:=hQ ((HB0.out.trans (HG1.out.mono (by simp;omega))).setCell (p:=⟨w.heap.size,2,none⟩) (xA _) (.slice la' t.leads.length lc'));have HX1:=hQ (Qay (i:=2) (y:=.slice la' t.leads.length lc') hx1 rfl);have HT1:=hQ (TrAt.move (w':=w1.setCell ⟨w.heap.size,2,none⟩ (.slice la' t.leads.length lc')) (fun _ h=>h) (fun k hk _=>(Below.setCell (p:=⟨w.heap.size,2,none⟩) (show Below w.heap.size _ w1 from HG1.out.mono (by simp;omega)) (xA _) (.slice la' t.leads.length lc')).block k hk) _ _ HT.out);obtain ⟨us,hul,hut,huc⟩:=KidsIn.vals HT1.out;have HUL:=hQ hul;have HUT:=hQ hut;have HUC:=hQ huc;clear hown1 hg1 k2 k3 rf hbl hul hut huc;have k0:=Qab hx1 0 _ rfl;have k1:=Qab hx1 1 _ rfl;have k2:=Qab hx1 2 _ rfl;have k3:=Qab hx1 3 _ rfl;have rf:=xL hx1;have hbl:=Qaa hx1;clear hx1)
   | (at_builtin;refine Qhu rfl _ _ 22 rfl 25 it _ 4 72 Tryz.underlying22 hit ht0 ht1 ht2 rfl (by decide) rfl (A:=vka) (m:=t.kids.length) (c:=vkc) (news:=Qag us) rfl (by rw [Qd0,HUL.out]) HUC.out (Qcv us) (by have:=HF2.out;omega) (by have:=HF2.out;unfold maxLen;omega) ?_;intro KA w2 hown2 hg2;obtain ⟨ka',kc',rfl⟩:=Qet hown2;have HO2:=hQ hown2;have HG2:=hQ (Qgm hg2);have hx2:=(HG2.out.block w.heap.size (Qaa HX1.out)).trans HX1.out;clear hown2 hg2 k0 k1 k2 k3 rf hbl;have k0:=Qab hx2 0 _ rfl;have k1:=Qab hx2 1 _ rfl;have k2:=Qab hx2 2 _ rfl;have k3:=Qab hx2 3 _ rfl;have rf:=xL hx2;have hbl:=Qaa hx2;have HX2:=hQ (Qay (i:=3) (y:=.slice ka' t.kids.length kc') hx2 rfl);clear hx2))
  have r1:=(HG1.out.block (w.heap.size+1) (Qaa HR.out)).trans HR.out;have r1':(w1.setCell ⟨w.heap.size,2,none⟩ (.slice la' t.leads.length lc')).heap[w.heap.size+1]? = _:=(Qao (by omega)).trans r1;have r2:=(HG2.out.block (w.heap.size+1) (Qaa r1')).trans r1';have r2':(w2.setCell ⟨w.heap.size,3,none⟩ (.slice ka' t.kids.length kc')).heap[w.heap.size+1]? = _:=(Qao (by omega)).trans r2;have HR2:=hQ r2';have HLS:=hQ (Quc HO1.out);have HC1:=hQ (Qfj HO1.out);have HC2:=hQ (Qfj HO2.out);have hs1:(w1.setCell ⟨w.heap.size,2,none⟩ (.slice la' t.leads.length lc')).heap.size=w1.heap.size:=by simp [World.setCell]
  have hs0':((w.alloc (trO ⟨vk,vx,vla,t.leads.length,vlc,vka,t.kids.length,vkc⟩)).alloc (.cells #[.int .i64 0,.string ⟨#[]⟩,.slice none 0 0,.slice none 0 0] 25)).heap.size=w.heap.size+2:=by simp
  -- the leads' block,in the last world
  have HLW2:=hQ (show ∀ b,w.heap.size+2≤b→b<w1.heap.size→b<(w2.setCell ⟨w.heap.size,3,none⟩ (.slice ka' t.kids.length kc')).heap.size∧(w2.setCell ⟨w.heap.size,3,none⟩ (.slice ka' t.kids.length kc')).heap[b]? = w1.heap[b]? from fun b hb hb1=>⟨by
   have:=HG2.out.size
   rw [hs1] at this;simp [World.setCell]
   omega,((Qao (by omega)).trans (HG2.out.block b (by rw [hs1];exact hb1))).trans (Qao (by omega))⟩)
  have HS0:=hQ hs0';have HS1:=hQ hs1;clear r1 r1' r2 r2' hs1 hs0'
  by_cases hn0:t.kids.length=0
  ·have HN0:=hQ hn0;have HD12:Below w.heap.size (w1.setCell ⟨w.heap.size,2,none⟩ (.slice la' t.leads.length lc')) (w2.setCell ⟨w.heap.size,3,none⟩ (.slice ka' t.kids.length kc')):=Below.setCell (p:=⟨w.heap.size,3,none⟩) (show Below w.heap.size _ w2 from HG2.out.mono (Nat.le_of_lt (Qaa HX1.out))) (xA _) _;have HDW:=hQ HD12;clear k0 k1 k2 k3 rf hbl HD12 hn0
   go_loopw [16] (fun i wr=>i = .int .i64 0∧w2.setCell ⟨w.heap.size,3,none⟩ (.slice ka' t.kids.length kc')=wr) (fun _ _=>0)
   case atStart=>exact ⟨rfl,rfl⟩
   case round =>
    obtain ⟨rfl,rfl⟩:=hrel;have hn1:¬ 0<t.kids.length:=by have:=HN0.out;omega
    have k0:=Qab HX2.out 0 _ rfl;have k1:=Qab HX2.out 1 _ rfl;have k2:=Qab HX2.out 2 _ rfl;have k3:=Qab HX2.out 3 _ rfl;have tbl:=Qaa HX2.out;have r0:=Qab HR2.out 0 _ rfl;have r1:=Qab HR2.out 1 _ rfl;have r2:=Qab HR2.out 2 _ rfl;have r3:=Qab HR2.out 3 _ rfl;have rbl:=Qaa HR2.out;have rrf:=xL HR2.out
    generalize hW:w2.setCell ⟨w.heap.size,3,none⟩ (.slice ka' t.kids.length kc')=WR at HX2 HR2 HLW2 HDW k0 k1 k2 k3 tbl r0 r1 r2 r3 rbl rrf ⊢
    clear hW
    go_wp2
    refine bodyPost_ret (v:=.agg #[.int .i64 vk,.string vx,.slice la' t.leads.length lc',.slice ka' t.kids.length kc']) (by simp [results,Tryz.results80,go_sem, *]) rfl ?_
    refine ⟨⟨vk,vx,la',t.leads.length,lc',ka',t.kids.length,kc'⟩,rfl,?_,?_⟩
    ·have hsz:(Qeg WR (w.heap.size+1) ⟨vk,vx,la',t.leads.length,lc',ka',t.kids.length,kc'⟩).heap.size=WR.heap.size:=Qb3 _ _ _
     have hlw:∀ b,w.heap.size+2≤b→b<w1.heap.size→b<WR.heap.size∧(Qeg WR (w.heap.size+1) ⟨vk,vx,la',t.leads.length,lc',ka',t.kids.length,kc'⟩).heap[b]? = w1.heap[b]?:=fun b hb hb1=>by
      obtain ⟨h1,h2⟩:=HLW2.out b hb hb1;exact ⟨h1,(Qa1 ⟨vk,vx,la',t.leads.length,lc',ka',t.kids.length,kc'⟩ (by omega)).trans h2⟩
     have hlo:∀ b,((w.alloc (trO ⟨vk,vx,vla,t.leads.length,vlc,vka,t.kids.length,vkc⟩)).alloc (.cells #[.int .i64 0,.string ⟨#[]⟩,.slice none 0 0,.slice none 0 0] 25)).heap.size≤b→w.heap.size+2≤b:=fun b hb=>by rw [HS0.out] at hb;exact hb
     show OwnT (Qeg WR (w.heap.size+1) ⟨vk,vx,la',t.leads.length,lc',ka',t.kids.length,kc'⟩) t _ _ _
     have hge:w.heap.size≤w1.heap.size∧w1.heap.size≤WR.heap.size:=⟨by have:=HG1.out.size;simp at this;omega,by have:=HDW.out.size;rw [HS1.out] at this;exact this⟩;exact OwnT.make (g:=w1.heap.size) HE3.out HE4.out rfl rfl ⟨HC1.out,HC2.out⟩ hge.1 (xQ hge.2 (Nat.le_of_eq hsz.symm)) (HLS.out.move (fun b hb=>⟨by have:=hlo b hb.1;omega,hb.2⟩) (fun b hb _=>(hlw b (hlo b hb.1) hb.2).2)) (fun h=>absurd (List.eq_nil_of_length_eq_zero HN0.out) h)
    ·exact (HB1.out.trans HDW.out).trans ((Qbk WR (w.heap.size+1) ⟨vk,vx,la',t.leads.length,lc',ka',t.kids.length,kc'⟩).mono (Nat.le_succ _))
  ·obtain ⟨g,hg1,hg2,cur,hg3,hg4⟩:∃ g,ka'=some ⟨g,0,none⟩∧(w1.setCell ⟨w.heap.size,2,none⟩ (.slice la' t.leads.length lc')).heap.size≤g∧∃ cur,w2.heap[g]? = some (.cells cur 25 (0,0))∧RowIs cur us:=by
    rcases HO2.out.2 with ⟨_,h0⟩|⟨g,cap,cur,hv,hb,hh,hnc,hm,hsz,htk⟩
    ·exact absurd h0 hn0
    ·injection hv with e1 e2 e3;refine ⟨g,e1,hb,cur,hh,fun i v hv=>?_⟩;obtain ⟨q0,q1,q2,q3⟩:=Qef us i v hv
     have hget:∀ (o:Nat) (x:Value),(Qag us)[o]? = some x→cur[o]? = some x:=fun o x hx=>by
      rw [←htk] at hx
      have hlt:o<t.kids.length*4:=by
       have:=(xP.1 hx).1
       rw [List.length_take] at this;omega
      rw [List.getElem?_take_of_lt hlt] at hx;rw [←Array.getElem?_toList];exact hx
     exact ⟨hget _ _ q0,hget _ _ q1,hget _ _ q2,hget _ _ q3⟩
   subst hg1;have HG3:=hQ hg3;have HG4:=hQ hg4
   have hgt:w.heap.size+1<g:=by
    have h1:=HG1.out.size;have h2:(w1.setCell ⟨w.heap.size,2,none⟩ (.slice la' t.leads.length lc')).heap.size=w1.heap.size:=by simp [World.setCell]
    rw [h2] at hg2;simp at h1
    omega
   have HGT:=hQ hgt;have HGE:=hQ (show w1.heap.size≤g from by rw [HS1.out] at hg2;exact hg2);have hg2l:=Qaa hg3;have HD12:Below w.heap.size (w1.setCell ⟨w.heap.size,2,none⟩ (.slice la' t.leads.length lc')) (w2.setCell ⟨w.heap.size,3,none⟩ (.slice (some ⟨g,0,none⟩) t.kids.length kc')):=Below.setCell (p:=⟨w.heap.size,3,none⟩) (show Below w.heap.size _ w2 from HG2.out.mono (Nat.le_of_lt (Qaa HX1.out))) (xA _) _;have HW2:=hQ (show (w2.setCell ⟨w.heap.size,3,none⟩ (.slice (some ⟨g,0,none⟩) t.kids.length kc')).heap[g]? = some (.cells cur 25 (0,0)) from (Below.heap_setCell _ _ _ _ (fun e:g=w.heap.size=>by omega)).trans hg3);have HDW:=hQ HD12;have HLT2:=hQ (show w.heap.size<(w2.setCell ⟨w.heap.size,3,none⟩ (.slice (some ⟨g,0,none⟩) t.kids.length kc')).heap.size from Qaa HX2.out);clear k0 k1 k2 k3 rf hbl hg3 hg4 hgt hg2 HD12 hn0 hg2l
   go_loopw [16] (fun i wr=>ClOwn t us g (w2.setCell ⟨w.heap.size,3,none⟩ (.slice (some ⟨g,0,none⟩) t.kids.length kc')) i wr) (fun i _=>t.kids.length-(intOf i).toNat)
   case atStart=>exact ⟨0,us,cur,rfl,xZ _,HUL.out,fun _ _=>rfl,HW2.out,HG4.out,(by rw [List.take_zero];unfold OwnL;exact Qaa HW2.out),Rest1.refl _ _⟩
   case round =>
    obtain ⟨j,vs,cs,rfl,hj,hvl,hve,hcs,hri,hfr,hrs⟩:=hrel;have HVL:=hQ hvl;have HVE:=hQ hve;have HCS:=hQ hcs;have HRI:=hQ hri;have HFR:=hQ hfr;have HRS:=hQ hrs;have htb:=(hrs.block w.heap.size HLT2.out (by have:=HGT.out;omega)).trans HX2.out;have HTB:=hQ htb;have HDN:=hQ (HDW.out.trans (hrs.down (B:=w.heap.size) (by have:=HGT.out;omega) (Nat.le_of_lt HLT2.out)));clear hvl hve hcs hri hfr hrs
    by_cases hlt:j<t.kids.length
    ·obtain ⟨k,hk⟩:∃ k,t.kids[j]? = some k:=⟨_,xF hlt⟩;obtain ⟨u,hu⟩:∃ u,us[j]? = some u:=⟨_,xF (by rw [HUL.out];exact hlt)⟩;obtain ⟨q0,q1,q2,q3⟩:=HRI.out j u ((HVE.out j (xA _)).trans hu);have c0:=Qab HCS.out _ _ q0;have c1:=Qab HCS.out _ _ q1;have c2:=Qab HCS.out _ _ q2;have c3:=Qab HCS.out _ _ q3;have k3:=Qab htb 3 _ rfl;have gbl:=Qaa HCS.out;have tbl:=Qaa htb;have grf:=xL HCS.out;have HK:=hQ hk;have HU:=hQ (TrAt.move (fun _ h=>h) (fun b hb _=>HDN.out.block b hb) _ _ (HUT.out j k u hk hu));have HNK:=hQ (show SizeOf.sizeOf k≤N from by have:=Qa0 hk;have:=HN.out;omega);have HFK:=hQ (HF3.out j k hk);have HBA:=hQ (((xC wr.heap.size wr).alloc (xA _) (trO u)).drew);have hja:(j:Int)<(t.kids.length:Int):=by omega
     have hj0:(0:Int)≤(j:Int):=by omega
     have HUJ:=hQ hu;clear hk hu q0 q1 q2 q3 htb;go_wp2_with fail
     go_region_law (go_simp;go_at_call 80;refine (HIH.out _ k u _ HNK.out (HU.out.keep HBA.out) HFK.out).mono ?_;rintro e w5 ⟨y,rfl,hty,hb5⟩;have HTY:=hQ hty;have HB5:=hQ (HBA.out.trans (hb5.mono HBA.out.size));have HCS5:=hQ ((HB5.out.block g gbl).trans HCS.out);have HTB5:=hQ ((HB5.out.block w.heap.size tbl).trans HTB.out);have HLW:=hQ (show wr.heap.size<w5.heap.size from xE (show wr.heap.size<(wr.alloc (trO u)).drew.heap.size by simp [World.drew]) hb5.size);clear hb5 hty c0 c1 c2 c3 k3 gbl tbl grf;obtain ⟨q0,q1,q2,q3⟩:=HRI.out j u ((HVE.out j (xA _)).trans HUJ.out);have c0:=Qab HCS5.out _ _ q0;have c1:=Qab HCS5.out _ _ q1;have c2:=Qab HCS5.out _ _ q2;have c3:=Qab HCS5.out _ _ q3;have gbl:=Qaa HCS5.out;have grf:=xL HCS5.out;have k3:=Qab HTB5.out 3 _ rfl;have tbl:=Qaa HTB5.out;clear q0 q1 q2 q3)
     all_goals
      clear c0 c1 c2 c3 k3 gbl tbl grf hja hj0;have hj2:(j:Int)+1≤1900000000001:=by have:=HF2.out;omega
      go_wp2
      go_roundw
      case measure=>simp [intOf];omega
      case rel =>
       have hR:Rest1 g wr (Zhh w5 g j y):=(Rest1.below HB5.out).trans (Qii w5 g j y);have hjv:j<vs.length:=by rw [HVL.out];exact hlt
       have hgw:=Qaa HCS.out;refine ⟨j+1,vs.set j y,Zhx cs j y,by go_num,by omega,by rw [List.length_set];exact HVL.out,fun i hi=>by rw [List.getElem?_set_ne (by omega)];exact HVE.out i (by omega),Qqh y HCS5.out,HRI.out.set hjv y,?_,HRS.out.trans hR⟩;rw [Qeu HK.out,Qeu (l:=vs.set j y) (k:=y) (List.getElem?_set_self hjv),List.take_set_of_le (xA _)];have hd:wr.heap.size≤(wr.alloc (trO u)).drew.heap.size:=HBA.out.size;refine OwnL.snoc (OwnL.move _ _ _ _ (fun b h1 h2 h3=>hR.block b h3 (by omega)) HFR.out) (by rw [List.length_take,List.length_take,HVL.out]) hd (OwnT.move _ _ _ _ (fun b h1 h2 h3=>(Qii w5 g j y).block b h3 (by omega)) ?_);have hsk:(Zhh w5 g j y).heap.size=w5.heap.size:=Qiq w5 g (j*4) y
       show OwnT w5 k y _ (Zhh w5 g j y).heap.size
       rw [hsk];exact HTY.out
    ·have hjn:j=t.kids.length:=by omega
     subst hjn;have k0:=Qab htb 0 _ rfl;have k1:=Qab htb 1 _ rfl;have k2:=Qab htb 2 _ rfl;have k3:=Qab htb 3 _ rfl;have tbl:=Qaa htb;have hrb:=(HRS.out.block (w.heap.size+1) (Qaa HR2.out) (by have:=HGT.out;omega)).trans HR2.out;have r0:=Qab hrb 0 _ rfl;have r1:=Qab hrb 1 _ rfl;have r2:=Qab hrb 2 _ rfl;have r3:=Qab hrb 3 _ rfl;have rbl:=Qaa hrb;have rrf:=xL hrb;have HRB:=hQ hrb;clear hrb htb
     go_wp2
     refine bodyPost_ret (v:=.agg #[.int .i64 vk,.string vx,.slice la' t.leads.length lc',.slice (some ⟨g,0,none⟩) t.kids.length kc']) (by simp [results,Tryz.results80,go_sem, *]) rfl ?_
     refine ⟨⟨vk,vx,la',t.leads.length,lc',some ⟨g,0,none⟩,t.kids.length,kc'⟩,rfl,?_,?_⟩
     ·have hsz:(Qeg wr (w.heap.size+1) ⟨vk,vx,la',t.leads.length,lc',some ⟨g,0,none⟩,t.kids.length,kc'⟩).heap.size=wr.heap.size:=Qb3 _ _ _
      have hlw:∀ b,w.heap.size+2≤b→b<w1.heap.size→b<wr.heap.size∧(Qeg wr (w.heap.size+1) ⟨vk,vx,la',t.leads.length,lc',some ⟨g,0,none⟩,t.kids.length,kc'⟩).heap[b]? = w1.heap[b]?:=fun b hb hb1=>by
       obtain ⟨h1,h2⟩:=HLW2.out b hb hb1;have hbg:b≠g:=by have:=HGE.out;omega
       exact ⟨xE h1 HRS.out.size,((Qa1 ⟨vk,vx,la',t.leads.length,lc',some ⟨g,0,none⟩,t.kids.length,kc'⟩ (by omega)).trans (HRS.out.block b h1 hbg)).trans h2⟩
      have hlo:∀ b,((w.alloc (trO ⟨vk,vx,vla,t.leads.length,vlc,vka,t.kids.length,vkc⟩)).alloc (.cells #[.int .i64 0,.string ⟨#[]⟩,.slice none 0 0,.slice none 0 0] 25)).heap.size≤b→w.heap.size+2≤b:=fun b hb=>by rw [HS0.out] at hb;exact hb
      show OwnT (Qeg wr (w.heap.size+1) ⟨vk,vx,la',t.leads.length,lc',some ⟨g,0,none⟩,t.kids.length,kc'⟩) t _ _ _
      have hfr:=HFR.out;rw [List.take_of_length_le (xA _),List.take_of_length_le (by rw [HVL.out];exact xA _)] at hfr;refine OwnT.make (g:=g) HE3.out HE4.out rfl rfl ⟨HC1.out,HC2.out⟩ (by have:=HGT.out;omega) (xQ (Nat.le_of_lt (Qaa HCS.out)) (Nat.le_of_eq hsz.symm)) (HLS.out.move (fun b hb=>⟨by have:=hlo b hb.1;omega,xE hb.2 HGE.out⟩) (fun b hb _=>(hlw b (hlo b hb.1) hb.2).2)) (fun _=>⟨rfl,cs,vs,(Qa1 _ (by have:=HGT.out;omega)).trans HCS.out,HVL.out,HRI.out,OwnL.move _ _ _ _ (fun b h1 h2 h3=>Qa1 _ (by have:=HGT.out;omega)) ?_⟩)
      show OwnL wr t.kids vs (g+1) (Qeg wr (w.heap.size+1) ⟨vk,vx,la',t.leads.length,lc',some ⟨g,0,none⟩,t.kids.length,kc'⟩).heap.size
      rw [hsz];exact hfr
     ·exact (HB1.out.trans HDN.out).trans ((Qbk wr (w.heap.size+1) ⟨vk,vx,la',t.leads.length,lc',some ⟨g,0,none⟩,t.kids.length,kc'⟩).mono (Nat.le_succ _))
end Go.Proofs.YtfjpemdejoejbaaGreat
