/- Part 46 -/
import Derived.Test.YtfjpemdejoejbaaGreatTt45
set_option maxRecDepth 100000
set_option maxHeartbeats 4000000
namespace Go.Proofs.YtfjpemdejoejbaaGreat
open Go.RowKit Go.Shelf
def LsT (t:Tr):Prop:=Qar t=true∧5≤t.kind∧t.kind≤9
theorem Qkc {u:Tr} (hu:LsT u):(n:Nat)→LsT (Qbp n u)
 | 0=>hu
 | n+1=>by
  have ih:=Qkc hu n;refine ⟨?_,by show 5≤(8:Int);omega,by show (8:Int)≤9;omega⟩;rw [Qbp,Qdo];have e1:(Tr.mk 8 ⟨#[]⟩ [] [Qbp n u]).kind=8:=rfl;have e2:(Tr.mk 8 ⟨#[]⟩ [] [Qbp n u]).kids = [Qbp n u]:=rfl;have e3:(Tr.mk 8 ⟨#[]⟩ [] [Qbp n u]).text=⟨#[]⟩:=rfl;rw [e1,e2,e3,Qbc,Qbc,ih.1];have e4:Qfl 8 [Qbp n u].length 0 (Qbp n u).kind=(decide (5≤(Qbp n u).kind) && decide ((Qbp n u).kind≤9)):=rfl;rw [e4,xS ih.2.1,xS ih.2.2];rfl
theorem Qi3 {u:Tr} (hu:u.kind≠8):(n:Nat)→Qav (Qbp n u)=u∧Qa6 (Qbp n u)=n
 | 0=>Qel hu
 | n+1=>by
  have ih:=Qi3 hu n;have h:=Qek (t:=Qbp (n+1) u) (k:=Qbp n u) (r:=[]) rfl rfl;rw [h.1,h.2,ih.1,ih.2];exact ⟨rfl,rfl⟩
def LfL (t:Tr) (w:World) (k:Nat) (wr:World):Prop:=∃ (x:Tr) (u:TV),SizeOf.sizeOf x≤k∧LsT x∧Qav t=Qav x∧wr.heap[w.heap.size]? = some (trO u)∧wr.heap[w.heap.size+1]? = some (trO ⟨0,⟨#[]⟩,none,0,0,none,0,0⟩)∧TrAt (fun b=>b<w.heap.size) wr x u∧Below w.heap.size w wr
theorem Qn1 (S:Nat→Prop) (t:Tr) (v:TV) (w:World) (h:TrAt S w t v) (ht:LsT t) :
  Calls Tryz.prog 38 #[.agg #[.int .i64 v.kind,.string v.text,.slice v.la v.ll v.lc,.slice v.ka v.kl v.kc]] w fun e w'=>∃ u:TV,e = .returned (.agg #[.int .i64 u.kind,.string u.text,.slice u.la u.ll u.lc,.slice u.ka u.kl u.kc])∧TrAt (fun b=>b<w.heap.size) w' (Qav t) u∧Below w.heap.size w w':=by
 have HL:=hQ (TrAt.low _ _ h);have H2:=hQ (Qc6 w (trO v) (trO ⟨0,⟨#[]⟩,none,0,0,none,0,0⟩));have K2:=hQ (Qch w (trO v) (trO ⟨0,⟨#[]⟩,none,0,0,none,0,0⟩));have HT:=hQ ht;clear h ht
 go_enter Tryz.func38,Tryz.ntmps38
 go_wp2
 go_loopg [5] (SizeOf.sizeOf t) (fun k _ wr=>LfL t w k wr)
 case atStart=>exact ⟨t,v,xA _,HT.out,rfl,K2.out.1,K2.out.2,HL.out.keep H2.out,H2.out⟩
 case round =>
  obtain ⟨x,u,hk,hx,hc,h0,h1,hu,hb⟩:=hrel;have HK:=hQ hk;have HX:=hQ hx;have HC:=hQ hc;have H0:=hQ h0;have H1:=hQ h1;have HU:=hQ hu;have HB:=hQ hb;have ek:=hu.kl.2.2.1;obtain ⟨uk,ux,ula,ull,ulc,uka,ukl,ukc⟩:=u;simp only at ek;have u0:wr.cell? ⟨w.heap.size,0,none⟩=some (.int .i64 uk):=Qaa h0 0 _ rfl;have u1:wr.cell? ⟨w.heap.size,1,none⟩=some (.string ux):=Qaa h0 1 _ rfl;have u2:wr.cell? ⟨w.heap.size,2,none⟩=some (.slice ula ull ulc):=Qaa h0 2 _ rfl;have u3:wr.cell? ⟨w.heap.size,3,none⟩=some (.slice uka ukl ukc):=Qaa h0 3 _ rfl;have ul:=Qab h0;have uf:=xL h0;have r0:wr.cell? ⟨w.heap.size+1,0,none⟩=some (.int .i64 0):=Qaa h1 0 _ rfl;have r1:wr.cell? ⟨w.heap.size+1,1,none⟩=some (.string ⟨#[]⟩):=Qaa h1 1 _ rfl;have r2:wr.cell? ⟨w.heap.size+1,2,none⟩=some (.slice none 0 0):=Qaa h1 2 _ rfl;have r3:wr.cell? ⟨w.heap.size+1,3,none⟩=some (.slice none 0 0):=Qaa h1 3 _ rfl;have rl:=Qab h1;have rf:=xL h1;clear h0 h1 hk hx hc hb
  by_cases h8:uk=8
  ·subst h8
   rcases Qeu HX.out.1 HX.out.2 with ⟨k8,k,hkk,hk1,hk2⟩|⟨k8,_,_⟩
   ·have hkj:x.kids[0]? = some k:=by rw [hkk];rfl
    have hkl:ukl=1:=by have:=hu.kl.1;rw [hkk] at this;exact this
    subst hkl;obtain ⟨b,off,hka⟩:∃ b off,uka=some ⟨b,off,none⟩:=hu.addr.resolve_left (by rw [hkk];simp);subst hka;obtain ⟨y,c0,c1,c2,c3,hy⟩:=hu.at rfl hkj;simp only [Nat.zero_mul,Nat.add_zero] at c0 c1 c2 c3;have cl:=xK wr _ c0;have HY:=hQ hy;have HKJ:=hQ hkj;have HK1:=hQ (show LsT k from ⟨hk2,hk1⟩);have HCC:=hQ (Qek k8 hkk).1;clear hu hkk hk1 hk2 hkj hy k8 ek
    go_wp2
    go_roundg (SizeOf.sizeOf k)
    case measure=>have:=Qbn HKJ.out;have:=HK.out;omega
    case rel=>exact ⟨k,y,xA _,HK1.out,HC.out.trans HCC.out,Qg5 (w:=wr) y H0.out,(Qca (w:=wr) y (by omega)).trans H1.out,TrAt.move (w':=Qhu wr w.heap.size y) (fun _ h=>h) (fun b hb _=>Qca y (by omega)) _ _ HY.out,HB.out.trans (Qb6 wr w.heap.size y)⟩
   ·exact absurd ek.symm k8
  ·have b8:=Qcm h8;have HE:=hQ (show Qav t=x from HC.out.trans (Qel (fun e=>h8 (ek.trans e))).1);clear hu ek h8
   go_wp2
   refine bodyPost_ret (v:=.agg #[.int .i64 uk,.string ux,.slice ula ull ulc,.slice uka ukl ukc]) (by simp [results,Tryz.results38,go_sem, *]) rfl ?_;have e2:∀ b,b≠w.heap.size+1→(Qhu wr (w.heap.size+1) ⟨uk,ux,ula,ull,ulc,uka,ukl,ukc⟩).heap[b]? = wr.heap[b]?:=fun b hn=>Qca ⟨uk,ux,ula,ull,ulc,uka,ukl,ukc⟩ hn
   have e4:=HB.out.trans ((Qb6 wr (w.heap.size+1) ⟨uk,ux,ula,ull,ulc,uka,ukl,ukc⟩).mono (Nat.le_succ _));refine ⟨⟨uk,ux,ula,ull,ulc,uka,ukl,ukc⟩,rfl,?_,e4⟩;rw [HE.out]
   show TrAt (fun b=>b<w.heap.size) (Qhu wr (w.heap.size+1) ⟨uk,ux,ula,ull,ulc,uka,ukl,ukc⟩) _ _
   exact TrAt.move (fun _ h=>h) (fun b hb _=>e2 b (by omega)) _ _ HU.out
theorem Qrl (w5:World) (a b c:Obj):(((w5.alloc a).alloc b).alloc c).heap[w5.heap.size]? = some a:=((Qbq ((w5.alloc a).alloc b) c).block _ (by rw [xI,xI];omega)).trans (Qch w5 a b).1
theorem Quv (w5:World) (a b c:Obj):(((w5.alloc a).alloc b).alloc c).heap[w5.heap.size+2]? = some c:=by
 have h:=xH ((w5.alloc a).alloc b) c;rw [xI,xI] at h;exact h
theorem Zff {B:Nat} {S:Nat→Prop} {w w3 WS:World} {u:Tr} {n:Nat} {y:TV} (hS:∀ b,S b→b<w.heap.size) (hB:B=w.heap.size+2) (hw:w.heap.size+2<w3.heap.size) (hy:TrAt (fun b=>S b∨(w.heap.size+3≤b∧b<w3.heap.size)) w3 (Qbp n u) y)
  (hs:WS.heap.size=w3.heap.size) (hk:∀ b,b≠B→WS.heap[b]? = w3.heap[b]?):TrAt (fun b=>S b∨(w.heap.size≤b∧b<(WS.alloc (trO y)).heap.size)) (WS.alloc (trO y)) (Qbp (n+1) u) ⟨8,⟨#[]⟩,none,0,0,some ⟨w3.heap.size,0,none⟩,1,1⟩:=by
 have ha:=Qbq WS (trO y);have hnew:(WS.alloc (trO y)).heap[w3.heap.size]? = some (trO y):=by rw [←hs];exact xH _ _
 have hsz:(WS.alloc (trO y)).heap.size=w3.heap.size+1:=by rw [xI,hs]
 show TrAt (fun b=>S b∨(w.heap.size≤b∧b<(WS.alloc (trO y)).heap.size)) (WS.alloc (trO y)) (.mk 8 ⟨#[]⟩ [] [Qbp n u]) _
 refine Qla (us:=[y]) 8 ⟨#[]⟩ rfl (fun i a v ha' hv=>?_) hnew (.inr ⟨by omega,by omega⟩) 1 rfl
 match i,ha',hv with
 | 0,ha',hv =>
  injection ha' with ha';injection hv with hv;subst ha' hv;refine TrAt.move (fun b hb=>hb.imp id fun h=>⟨by omega,by omega⟩) (fun b hb hl=>(ha.block b (by omega)).trans (hk b ?_)) _ _ hy
  rcases hb with h | h
  ·have:=hS b h;omega
  ·omega
 | i+1,ha',_=>simp at ha'
theorem Zfg (N:Nat):∀ (S S':Nat→Prop) (t u:Tr) (v z:TV) (w:World),SizeOf.sizeOf t≤N→TrAt S w t v→LsT t→TrAt S' w u z→(∀ b,S' b→b<w.heap.size) →
  Calls Tryz.prog 61 #[.agg #[.int .i64 v.kind,.string v.text,.slice v.la v.ll v.lc,.slice v.ka v.kl v.kc],.agg #[.int .i64 z.kind,.string z.text,.slice z.la z.ll z.lc,.slice z.ka z.kl z.kc]] w fun e w'=>∃ y:TV,e = .returned (.agg #[.int .i64 y.kind,.string y.text,.slice y.la y.ll y.lc,.slice y.ka y.kl y.kc])∧TrAt (fun b=>S' b∨(w.heap.size≤b∧b<w'.heap.size)) w' (Qbp (Qa6 t) u) y∧Below w.heap.size w w':=by
 induction N with
 | zero=>intro S S' t u v z w h;have:=Qf7 t;omega
 | succ N ih =>
  intro S S' t u v z w hN h ht hu hS';have HB3:=hQ (Qfk (xC w.heap.size w) (trO v) (trO z) (trO ⟨0,⟨#[]⟩,none,0,0,none,0,0⟩));have K0:=hQ (Qrl w (trO v) (trO z) (trO ⟨0,⟨#[]⟩,none,0,0,none,0,0⟩));have K1:=hQ (Qi0 w (trO v) (trO z) (trO ⟨0,⟨#[]⟩,none,0,0,none,0,0⟩));have K2:=hQ (Quv w (trO v) (trO z) (trO ⟨0,⟨#[]⟩,none,0,0,none,0,0⟩));have HU:=hQ hu;have HS:=hQ hS';have ek:=h.kl.2.2.1;obtain ⟨vk,vx,vla,vll,vlc,vka,vkl,vkc⟩:=v;obtain ⟨zk,zx,zla,zll,zlc,zka,zkl,zkc⟩:=z;simp only at ek
  by_cases h8:vk=8
  ·subst h8
   rcases Qeu ht.1 ht.2 with ⟨k8,k,hkk,hk1,hk2⟩|⟨k8,_,_⟩
   ·have hkj:t.kids[0]? = some k:=by rw [hkk];rfl
    have hkl:vkl=1:=by have:=h.kl.1;rw [hkk] at this;exact this
    subst hkl;obtain ⟨b,off,hka⟩:∃ b off,vka=some ⟨b,off,none⟩:=h.addr.resolve_left (by rw [hkk];simp);subst hka;obtain ⟨y,c0,c1,c2,c3,hy⟩:=h.at rfl hkj;simp only [Nat.zero_mul,Nat.add_zero] at c0 c1 c2 c3;have HLE:=hQ (Qek k8 hkk).2;have HSZ:=hQ (Qgc w (trO ⟨8,vx,vla,vll,vlc,some ⟨b,off,none⟩,1,vkc⟩) (trO ⟨zk,zx,zla,zll,zlc,zka,zkl,zkc⟩) (trO ⟨0,⟨#[]⟩,none,0,0,none,0,0⟩));obtain ⟨W3,hW3⟩:∃ W,W=((w.alloc (.cells #[.int .i64 8,.string vx,.slice vla vll vlc,.slice (some ⟨b,off,none⟩) 1 vkc] 25)).alloc (.cells #[.int .i64 zk,.string zx,.slice zla zll zlc,.slice zka zkl zkc] 25)).alloc (.cells #[.int .i64 0,.string ⟨#[]⟩,.slice none 0 0,.slice none 0 0] 25):=⟨_,rfl⟩;have HBW:=hQ (show Below w.heap.size w W3 by rw [hW3];exact HB3.out);have p1:W3.heap[w.heap.size]? = some (trO ⟨8,vx,vla,vll,vlc,some ⟨b,off,none⟩,1,vkc⟩):=by rw [hW3];exact K0.out
    have p2:W3.heap[w.heap.size+1]? = some (trO ⟨zk,zx,zla,zll,zlc,zka,zkl,zkc⟩):=by rw [hW3];exact K1.out
    have p3:W3.heap[w.heap.size+2]? = some (trO ⟨0,⟨#[]⟩,none,0,0,none,0,0⟩):=by rw [hW3];exact K2.out
    have psz:W3.heap.size=w.heap.size+3:=by rw [hW3];exact HSZ.out
    have cl0:=xK w _ c0;have d0:=Qas HBW.out cl0 c0;have d1:=Qas HBW.out cl0 c1;have d2:=Qas HBW.out cl0 c2;have d3:=Qas HBW.out cl0 c3;have cl:=xK W3 _ d0;have v3:W3.cell? ⟨w.heap.size,3,none⟩=some (.slice (some ⟨b,off,none⟩) 1 vkc):=Qaa p1 3 _ rfl;have vl:=Qab p1;have z0:W3.cell? ⟨w.heap.size+1,0,none⟩=some (.int .i64 zk):=Qaa p2 0 _ rfl;have z1:W3.cell? ⟨w.heap.size+1,1,none⟩=some (.string zx):=Qaa p2 1 _ rfl;have z2:W3.cell? ⟨w.heap.size+1,2,none⟩=some (.slice zla zll zlc):=Qaa p2 2 _ rfl;have z3:W3.cell? ⟨w.heap.size+1,3,none⟩=some (.slice zka zkl zkc):=Qaa p2 3 _ rfl;have zl:=Qab p2;have HC:=hQ (fun w' (hb:Below W3.heap.size W3 w')=>ih S S' k u y ⟨zk,zx,zla,zll,zlc,zka,zkl,zkc⟩ w' (by have:=Qbn hkj;omega) ((hy.keep HBW.out).keep hb) ⟨hk2,hk1⟩ ((hu.keep HBW.out).keep hb) (fun b h=>xE (hS' b h) (xQ HBW.out.size hb.size)));have P3:=hQ p3;have PSZ:=hQ psz;clear p1 p2 p3 psz HB3 K0 K1 K2 HSZ c0 c1 c2 c3 cl0 hy hu hS' ih hN h ht hkk hk1 hk2 hkj k8 ek
    go_enter Tryz.func61,Tryz.ntmps61
    go_upto_region 3 with fail
    rw [←hW3];clear hW3
    go_still_tail 5,(by kernel_rfl)
    change wpList _ _ _ _ _ W3.drew
    have HBD:=hQ (show Below W3.heap.size W3 W3.drew from (xC _ _).drew);clear d0 d1 d2 d3 cl v3 vl z0 z1 z2 z3 zl
    generalize W3.drew=wd at HBD ⊢
    go_wp2_with (go_at_call 61;refine (HC.out _ HBD.out).mono ?_;rintro e w3 ⟨q,rfl,hq,hb⟩;have HQ:=hQ hq;have HB4:=hQ hb;have hp4:=(hb.block (w.heap.size+2) (xE (Qab P3.out) HBD.out.size)).trans ((HBD.out.block _ (Qab P3.out)).trans P3.out);have P4:=hQ hp4;have r0:w3.cell? ⟨w.heap.size+1+1,0,none⟩=some (.int .i64 0):=Qaa hp4 0 _ rfl;have r1:w3.cell? ⟨w.heap.size+1+1,1,none⟩=some (.string ⟨#[]⟩):=Qaa hp4 1 _ rfl;have r2:w3.cell? ⟨w.heap.size+1+1,2,none⟩=some (.slice none 0 0):=Qaa hp4 2 _ rfl;have r3:w3.cell? ⟨w.heap.size+1+1,3,none⟩=some (.slice none 0 0):=Qaa hp4 3 _ rfl;have rl:w.heap.size+1+1<w3.heap.size:=Qab hp4;have rl2:=Nat.lt_of_succ_lt rl;have rl3:=Nat.lt_of_succ_lt rl2;have rf:∀ o,w3.frozen? ⟨w.heap.size+1+1,o,none⟩=false:=xL hp4;clear hq hb hp4)
    refine bodyPost_ret (v:=.agg #[.int .i64 8,.string ⟨#[]⟩,.slice none 0 0,.slice (some ⟨w3.heap.size,0,none⟩) 1 1]) (by simp [results,Tryz.results61,go_sem, *]) rfl ?_;have hwd:w.heap.size+3≤wd.heap.size:=by have h1:=HBD.out.size;have h2:=PSZ.out;omega
    have hbs:=HBW.out.trans ((HBD.out.trans (HB4.out.mono HBD.out.size)).mono HBW.out.size);have hbt:=hbs.trans ((Qb6 w3 (w.heap.size+2) ⟨8,⟨#[]⟩,none,0,0,some ⟨w3.heap.size,0,none⟩,1,1⟩).mono (by omega));have he:=Zff (B:=w.heap.size+2) (S:=S') (u:=u) (n:=Qa6 k) (y:=q) (WS:=Qhu w3 (w.heap.size+2) ⟨8,⟨#[]⟩,none,0,0,some ⟨w3.heap.size,0,none⟩,1,1⟩) HS.out rfl rl (TrAt.move (fun b hb=>hb.imp id fun h=>⟨by omega,h.2⟩) (fun _ _ _=>rfl) _ _ HQ.out) (Qei _ _ _) (fun b hb=>Qca _ hb);refine ⟨⟨8,⟨#[]⟩,none,0,0,some ⟨w3.heap.size,0,none⟩,1,1⟩,rfl,?_,hbt.alloc hbt.size (trO q)⟩;rw [HLE.out];exact he
   ·exact absurd ek.symm k8
  ·have b8:=Qcm h8;have n8:=Zdw h8;have HE:=hQ (show Qbp (Qa6 t) u=u by rw [(Qel (fun e=>h8 (ek.trans e))).2];rfl);clear ih hN h ht hu hS' ek h8
   go_enter Tryz.func61,Tryz.ntmps61
   go_wp2
   refine bodyPost_ret (v:=.agg #[.int .i64 zk,.string zx,.slice zla zll zlc,.slice zka zkl zkc]) (by simp [results,Tryz.results61,go_sem, *]) rfl ?_;have hb3:=Qfk (xC w.heap.size w) (trO ⟨vk,vx,vla,vll,vlc,vka,vkl,vkc⟩) (trO ⟨zk,zx,zla,zll,zlc,zka,zkl,zkc⟩) (trO ⟨zk,zx,zla,zll,zlc,zka,zkl,zkc⟩);exact ⟨⟨zk,zx,zla,zll,zlc,zka,zkl,zkc⟩,rfl,by rw [HE.out];exact TrAt.move (fun b hb=>.inl hb) (fun b _ hl=>hb3.block b hl) _ _ HU.out,hb3⟩
end Go.Proofs.YtfjpemdejoejbaaGreat
