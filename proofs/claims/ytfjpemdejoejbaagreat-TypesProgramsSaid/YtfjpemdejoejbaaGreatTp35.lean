/- Part 35 -/
import Derived.Test.YtfjpemdejoejbaaGreatTp29
import Derived.OwnWalk
set_option maxRecDepth 100000
set_option maxHeartbeats 4000000
namespace Go.Proofs.YtfjpemdejoejbaaGreat
open Go.Proofs.Tryz Go.RowKit Go.Shelf
theorem Zd9{w:World}{B q c:Nat}{A:yE}{l:List yD}(h:w.ownsRow B 9 1 (.slice A q c) q (l.map Value.string))(hl:l.length=q):0<q->∃ g cs,A=some ⟨g,0,none⟩/\w.heap[g]? = some (.cells cs 9 (0,0))/\B<=g/\∀ (i:Nat) (s:yD),l[i]? = some s->cs[i]? = some (.string s):=fun h0=>by
 rcases h.2 with⟨_,hx⟩|⟨g,cap,cur,hv,hb,hh,hnc,hm,hsz,htk⟩
 ·omega
 ·injection hv with e1 e2 e3;refine⟨g,cur,e1,hh,hb,fun i s hs=>?_⟩;have hi:=(xP.1 hs).1;have hx:(l.map Value.string)[i]? = some (.string s):=by rw[List.getElem?_map,hs];rfl
  rw[<-htk,List.getElem?_take_of_lt (by omega)]at hx;rw[<-Array.getElem?_toList];exact hx
theorem Qpo(q:Nat):∀ y∈List.replicate q (⟨#[32]⟩:yD),y.size<=5:=fun y hy=>by rw[(List.mem_replicate.1 hy).2];decide
theorem Zkw{R q c B:Nat}{A:yE}{w5:World}(k:Int)(x:yD)(h:w5.ownsRow B 9 1 (.slice A q c) q ((List.replicate q (⟨#[32]⟩:yD)).map Value.string))(hB:R<B)(hs:B<=w5.heap.size):LdU R w5.heap.size k x A q c (w5.alloc (trO ⟨k,x,A,q,c,none,0,0⟩)):=by
 refine⟨xH _ _,by omega,Qgv h,_,List.length_replicate,Qpo q,fun h0=>?_⟩;obtain⟨g,cs,q1,q2,q3,q4⟩:=Zd9 h List.length_replicate h0;have:=Qaa q2
 exact⟨g,cs,q1,(Below.heap_alloc _ _ _ this).trans q2,by omega,by omega,q4⟩
theorem Zkx{R q c B U:Nat}{A:yE}{w5:World}{v:TV}(k:Int)(x:yD)(h:w5.ownsRow B 9 1 (.slice A q c) q ((List.replicate q (⟨#[32]⟩:yD)).map Value.string))(hR:R<U)(hU:U<B)(hb:w5.heap[U]? = some (trO v)):LdU R U k x A q c (Qek w5 U ⟨k,x,A,q,c,none,0,0⟩):=by
 refine⟨Qf2 _ hb,hR,Qgv h,_,List.length_replicate,Qpo q,fun h0=>?_⟩;obtain⟨g,cs,q1,q2,q3,q4⟩:=Zd9 h List.length_replicate h0;exact⟨g,cs,q1,(Qa3 _ (by omega)).trans q2,by omega,by omega,q4⟩
theorem Qmo{W0 w5:World}{o:Obj}(hb:Below (W0.alloc o).drew.heap.size (W0.alloc o).drew w5):w5.heap[W0.heap.size]? = some o:=(hb.block _ (by show W0.heap.size<(W0.alloc o).heap.size;rw[xI];omega)).trans (xH W0 o)
theorem Qza{w w5:World}{o o2:Obj}(hb:Below ((w.alloc o).alloc o2).drew.heap.size ((w.alloc o).alloc o2).drew w5):w5.heap[w.heap.size]? = some o:=(hb.block _ (by show w.heap.size<((w.alloc o).alloc o2).heap.size;rw[xI,xI];omega)).trans ((Below.heap_alloc _ _ _ (by rw[xI];omega)).trans (xH w o))
theorem Qzb{w w5:World}{o o2 o3:Obj}(hb:Below (((w.alloc o).alloc o2).alloc o3).drew.heap.size (((w.alloc o).alloc o2).alloc o3).drew w5):w5.heap[w.heap.size]? = some o:=(hb.block _ (by show w.heap.size<(((w.alloc o).alloc o2).alloc o3).heap.size;rw[xI,xI,xI];omega)).trans ((Below.heap_alloc _ _ _ (by rw[xI,xI];omega)).trans ((Below.heap_alloc _ _ _ (by rw[xI];omega)).trans (xH w o)))
theorem Qi2{B:Nat}{W w':World}(h:Below B W.drew w'):Below B W w':=⟨h.os,h.tape,h.output,h.size,h.block⟩
theorem Qwr{w:World}{b U o:Nat}{v:TV}(h:b≠U):(Qek w U v).cell? ⟨b,o,none⟩=w.cell? ⟨b,o,none⟩:=xJ (w:=w) (a:=⟨b,o,none⟩) (Qa3 v h)
theorem Zea{w:World}{B g n c:Nat}{xs:List Value}(h:w.ownsRow B 25 4 (.slice (some ⟨g,0,none⟩) n c) n xs):∃ cs,w.heap[g]? = some (.cells cs 25 (0,0))/\n*4<=cs.size:=by
 rcases h.2 with⟨hv,_⟩|⟨g',cap,cur,hv,hb,hh,hnc,hm,hsz,htk⟩
 ·cases hv
 ·injection hv with e1 _ _;injection e1 with e1;injection e1 with e1 _ _;subst e1;exact⟨cur,hh,by rw[hsz];exact Nat.mul_le_mul_right 4 hnc⟩
theorem Qgc{w:World}{b U o q:Nat}{y:TV}(h:b≠U):(Zfd w U o y).cell? ⟨b,q,none⟩=w.cell? ⟨b,q,none⟩:=xJ (w:=w) (a:=⟨b,q,none⟩) (Qeq o y h)
def ArC(R:Nat)(k:Int)(x:yD)(q:Nat)(W:World)(s:Value)(wx:World):Prop:=∃ (U:Nat) (la:yE) (lc:Nat),s = .pointer (some ⟨U,0,none⟩)/\LdU R U k x la q lc wx/\Below W.heap.size W wx
def ArL(G:Nat)(t:Tr)(W:World)(i:Value)(wr:World):Prop:=∃ (j:Nat) (ks:List Tr) (vs:List TV),i = .int .i64 j/\j<=t.kids.length/\ks.length=j/\RowK G wr ks vs/\Qbu ks=true/\Qal ks=Qal (t.kids.take j)/\(∃ cs,wr.heap[G]? = some (.cells cs 25 (0,0))/\t.kids.length*4<=cs.size)/\Below W.heap.size W wr
theorem Quz(N:Nat):∀ (S:Nat->Prop) (t:Tr) (v:TV) (s:yD) (w:World),SizeOf.sizeOf t<=N->TrAt S w t v->Qa2 t=true->Qf6 t=true->Qai t<=1000->s.size<=5 ->
  Calls prog 102 #[.agg #[.int .i64 v.kind,.string v.text,.slice v.la v.ll v.lc,.slice v.ka v.kl v.kc],.string s] w (Znx t w):=by
 induction N with
 | zero=>intro S t v s w h;have:=Qf3 t;omega
 | succ N ih =>
  intro S t v s w hN h hsh hti hsz hss;have HIH:=hQ ih;have HN:=hQ hN;have HTI:=hQ hti;have HSZ:=hQ hsz;have HSS:=hQ hss;obtain⟨hl0,hkid⟩:=Qk7 hsh;have HKID:=hQ hkid;obtain⟨hx7,_,_,hkt⟩:=Qcp.1 (show Qf6 (.mk t.kind t.text t.leads t.kids)=true from by rw[Tr.eta];exact hti);have HX7:=hQ hx7;have HKT:=hQ hkt;have HL0:=hQ hl0;have HKL:=hQ (show t.kids.length<=1000 from by have:=Qa0 t.kids;rw[Qa5]at hsz;omega);obtain⟨e1,e2,e3,e4⟩:=h.kl;have HB0:=hQ (((xC w.heap.size w).alloc (xA _) (trO v)).alloc (by rw[xI];omega) (.cells #[.int .i64 0,.string ⟨#[]⟩,.slice none 0 0,.slice none 0 0] 25));have HT:=hQ (TrAt.keep (TrAt.low t v h) HB0.out);obtain⟨vk,vx,vla,vll,vlc,vka,vkl,vkc⟩:=v;simp only at e1 e2 e3 e4;subst e1 e2 e4;obtain⟨q,hq⟩:∃ q:Nat,Qat vk t.kids.length=(q:Int):=⟨(Qat vk t.kids.length).toNat,by rw[e3];omega⟩;have HE3:=hQ e3;have HQ:=hQ hq;have HQM:=hQ (show q<=t.kids.length+6 from by have:=Qy6 (k:=vk) (n:=(t.kids.length:Int)) (by omega);omega);have HX:=hQ (show((w.alloc (trO ⟨vk,t.text,vla,t.leads.length,vlc,vka,t.kids.length,vkc⟩)).alloc (.cells #[.int .i64 0,.string ⟨#[]⟩,.slice none 0 0,.slice none 0 0] 25)).heap[w.heap.size]? = some (trO ⟨vk,t.text,vla,t.leads.length,vlc,vka,t.kids.length,vkc⟩) from(((xC (w.alloc (trO ⟨vk,t.text,vla,t.leads.length,vlc,vka,t.kids.length,vkc⟩)).heap.size _).alloc (xA _) _).block w.heap.size (by simp)).trans (xH w _));have HR:=hQ (show((w.alloc (trO ⟨vk,t.text,vla,t.leads.length,vlc,vka,t.kids.length,vkc⟩)).alloc (.cells #[.int .i64 0,.string ⟨#[]⟩,.slice none 0 0,.slice none 0 0] 25)).heap[w.heap.size+1]? = some (.cells #[.int .i64 0,.string ⟨#[]⟩,.slice none 0 0,.slice none 0 0] 25 (0,0)) from by rw[<-xI w (trO ⟨vk,t.text,vla,t.leads.length,vlc,vka,t.kids.length,vkc⟩)];exact xH _ _);have HZ0:=hQ (show((w.alloc (trO ⟨vk,t.text,vla,t.leads.length,vlc,vka,t.kids.length,vkc⟩)).alloc (.cells #[.int .i64 0,.string ⟨#[]⟩,.slice none 0 0,.slice none 0 0] 25)).heap.size=w.heap.size+2 from by simp);obtain⟨it,hit,ht0,ht1,ht2⟩:=info_parts Qcm;have HLC:=hQ (fun(w:World)=>(Qhs vk t.kids.length w (by have:=HKL.out;omega)).mono (fun e w' hh=>(show e = .returned (.int .i64 (q:Int))/\w=w' from⟨by rw[hh.1,hq],hh.2⟩)));clear ih hN h hsh hti hsz hss hkid hx7 hkt hl0 hq e3;have k0:=Qab HX.out 0 _ rfl;have k1:=Qab HX.out 1 _ rfl;have k2:=Qab HX.out 2 _ rfl;have k3:=Qab HX.out 3 _ rfl;have kl:=Qaa HX.out;have HUZ:=hQ (show(((w.alloc (trO ⟨vk,t.text,vla,t.leads.length,vlc,vka,t.kids.length,vkc⟩)).alloc (.cells #[.int .i64 0,.string ⟨#[]⟩,.slice none 0 0,.slice none 0 0] 25)).alloc (.cells #[.int .i64 0,.string ⟨#[]⟩,.slice none 0 0,.slice none 0 0] 25)).heap[w.heap.size+1+1]? = some (.cells #[.int .i64 0,.string ⟨#[]⟩,.slice none 0 0,.slice none 0 0] 25 (0,0)) from by have:=xH ((w.alloc (trO ⟨vk,t.text,vla,t.leads.length,vlc,vka,t.kids.length,vkc⟩)).alloc (.cells #[.int .i64 0,.string ⟨#[]⟩,.slice none 0 0,.slice none 0 0] 25)) (.cells #[.int .i64 0,.string ⟨#[]⟩,.slice none 0 0,.slice none 0 0] 25);rwa[HZ0.out]at this);have HML:=hQ (show t.kids.length<=140737488355328 from by have:=HKL.out;omega);go_enter func102,ntmps102;go_upto_region 2 with fail
  go_cut [6] (fun s6 wx=>ArC (w.heap.size+1) vk t.text q ((w.alloc (trO ⟨vk,t.text,vla,t.leads.length,vlc,vka,t.kids.length,vkc⟩)).alloc (.cells #[.int .i64 0,.string ⟨#[]⟩,.slice none 0 0,.slice none 0 0] 25)) s6 wx)
  case first =>
   go_region_held3 (fun w'=>w'.cell? ⟨w.heap.size,0,none⟩=some (.int .i64 vk)/\w'.cell? ⟨w.heap.size,1,none⟩=some (.string t.text)) (first | with_reducible exact⟨k0,k1⟩ | go_keep | exact⟨(Qwr (w:=w5) (U:=w.heap.size+1+1) (v:=⟨vk,t.text,LA,q,LC,none,0,0⟩) (by omega)).trans k0,(Qwr (w:=w5) (U:=w.heap.size+1+1) (v:=⟨vk,t.text,LA,q,LC,none,0,0⟩) (by omega)).trans k1⟩) (first
    | (go_simp;go_at_call 57;refine(HLC.out _).mono ?_;rintro e w3⟨rfl,rfl⟩)
    | (go_simp;go_at_call 141;refine(Qy7 q _ (by have:=HQM.out;have:=HKL.out;omega)).mono ?_;rintro e w5⟨r,rfl,hown,hb5⟩;obtain⟨LA,LC,rfl⟩:=Qhp hown;have HO5:=hQ hown;have HB5:=hQ hb5;have hu:=Qmo hb5;simp only[xI]at hu;have HU5:=hQ hu;obtain⟨x0,x1,x2,x3,xl,xf⟩:=Qah hu;clear hu k0 k1 k2 k3 kl;(first | (have hk:=Qzb hb5;have HORDB:=hQ hk) | (have hk:=Qza hb5;have HORDA:=hQ hk));have k0:=Qab hk 0 _ rfl;have k1:=Qab hk 1 _ rfl;have k2:=Qab hk 2 _ rfl;have k3:=Qab hk 3 _ rfl;have kl:=Qaa hk;clear hk;clear hown hb5)
    | fail)
   all_goals
    go_wp2_with fail;go_meet
    first
     | (have hh:=HORDA.out;clear hh;exact⟨w5.heap.size,LA,LC,rfl,Zkw vk t.text HO5.out (by show w.heap.size+1<((w.alloc (trO ⟨vk,t.text,vla,t.leads.length,vlc,vka,t.kids.length,vkc⟩)).alloc (.cells #[.int .i64 0,.string ⟨#[]⟩,.slice none 0 0,.slice none 0 0] 25)).heap.size;rw[HZ0.out];omega) HB5.out.size,Below.alloc (show Below ((w.alloc (trO ⟨vk,t.text,vla,t.leads.length,vlc,vka,t.kids.length,vkc⟩)).alloc (.cells #[.int .i64 0,.string ⟨#[]⟩,.slice none 0 0,.slice none 0 0] 25)).heap.size ((w.alloc (trO ⟨vk,t.text,vla,t.leads.length,vlc,vka,t.kids.length,vkc⟩)).alloc (.cells #[.int .i64 0,.string ⟨#[]⟩,.slice none 0 0,.slice none 0 0] 25)) w5 from Qi2 HB5.out) HB5.out.size _⟩)
     | exact⟨w.heap.size+1+1,LA,LC,rfl,Zkx (v:=⟨0,⟨#[]⟩,none,0,0,none,0,0⟩) vk t.text HO5.out (by omega) (by show w.heap.size+1+1<(((w.alloc (trO ⟨vk,t.text,vla,t.leads.length,vlc,vka,t.kids.length,vkc⟩)).alloc (.cells #[.int .i64 0,.string ⟨#[]⟩,.slice none 0 0,.slice none 0 0] 25)).alloc (.cells #[.int .i64 0,.string ⟨#[]⟩,.slice none 0 0,.slice none 0 0] 25)).heap.size;rw[xI,HZ0.out];omega) HU5.out,(((xC ((w.alloc (trO ⟨vk,t.text,vla,t.leads.length,vlc,vka,t.kids.length,vkc⟩)).alloc (.cells #[.int .i64 0,.string ⟨#[]⟩,.slice none 0 0,.slice none 0 0] 25)).heap.size ((w.alloc (trO ⟨vk,t.text,vla,t.leads.length,vlc,vka,t.kids.length,vkc⟩)).alloc (.cells #[.int .i64 0,.string ⟨#[]⟩,.slice none 0 0,.slice none 0 0] 25))).alloc (xA _) (.cells #[.int .i64 0,.string ⟨#[]⟩,.slice none 0 0,.slice none 0 0] 25)).trans ((show Below (((w.alloc (trO ⟨vk,t.text,vla,t.leads.length,vlc,vka,t.kids.length,vkc⟩)).alloc (.cells #[.int .i64 0,.string ⟨#[]⟩,.slice none 0 0,.slice none 0 0] 25)).alloc (.cells #[.int .i64 0,.string ⟨#[]⟩,.slice none 0 0,.slice none 0 0] 25)).heap.size (((w.alloc (trO ⟨vk,t.text,vla,t.leads.length,vlc,vka,t.kids.length,vkc⟩)).alloc (.cells #[.int .i64 0,.string ⟨#[]⟩,.slice none 0 0,.slice none 0 0] 25)).alloc (.cells #[.int .i64 0,.string ⟨#[]⟩,.slice none 0 0,.slice none 0 0] 25)) w5 from Qi2 HB5.out).mono ((xC _ _).alloc (xA _) (.cells #[.int .i64 0,.string ⟨#[]⟩,.slice none 0 0,.slice none 0 0] 25)).size)).trans ((Qb6 w5 (w.heap.size+1+1) ⟨vk,t.text,LA,q,LC,none,0,0⟩).mono (by rw[HZ0.out];omega))⟩
  case rest =>
   obtain⟨w3,hww⟩:∃ w',w'=wc:=⟨_,rfl⟩;subst hww;obtain⟨U,la,lc,rfl,hld,hb3⟩:=hcut;have HLD:=hQ hld;have HB3:=hQ (show Below ((w.alloc (trO ⟨vk,t.text,vla,t.leads.length,vlc,vka,t.kids.length,vkc⟩)).alloc (.cells #[.int .i64 0,.string ⟨#[]⟩,.slice none 0 0,.slice none 0 0] 25)).heap.size ((w.alloc (trO ⟨vk,t.text,vla,t.leads.length,vlc,vka,t.kids.length,vkc⟩)).alloc (.cells #[.int .i64 0,.string ⟨#[]⟩,.slice none 0 0,.slice none 0 0] 25)) w3 from hb3);have HX3:=hQ ((HB3.out.block w.heap.size (Qaa HX.out)).trans HX.out);have HR3:=hQ ((HB3.out.block (w.heap.size+1) (Qaa HR.out)).trans HR.out);clear hld hb3 k0 k1 k2 k3 kl;have HKB:=hQ (show it.bytes*t.kids.length<=281474976710656 from by rw[ht2];have:=HKL.out;omega);have HKM:=hQ (show t.kids.length<=maxLen from by have:=HKL.out;unfold maxLen;omega);go_wp2_with (refine wpList_make_full _ rfl _ _ 22 rfl w3.heap.size 25 it _ 4 underlying22 hit ht0 ht1 .i64 .i64 _ _ t.kids.length rfl rfl rfl rfl HKB.out HKM.out (xA _) ?_;intro w4 hown4 hg4;have HO4:=hQ hown4;have HG4:=hQ (Qng hg4);clear hown4 hg4)
   have HRB:=hQ (Zea HO4.out)
   go_loopw [8] (fun i wr=>ArL w3.heap.size t w3 i wr) (fun i _=>t.kids.length-(intOf i).toNat)
   case atStart =>
    obtain⟨cs,hc1,hc2⟩:=HRB.out;exact⟨0,[],[],rfl,xZ _,rfl,⟨rfl,⟨cs,hc1,fun i v h=>by simp at h⟩,fun i k u h=>by simp at h⟩,by rw[Qbu],by rw[List.take_zero],⟨cs,hc1,hc2⟩,HG4.out⟩
   case round =>
    obtain⟨j,ks,vs,rfl,hj,hkl,hrow,htn,hsl,⟨cs,hc1,hc2⟩,hbr⟩:=hrel;have HKS:=hQ hkl;have HROW:=hQ hrow;have HTN:=hQ htn;have HSL:=hQ hsl;have HC1:=hQ hc1;have HC2:=hQ hc2;have HBR:=hQ hbr;have HBW:=hQ (yC HB3.out hbr);have HXR:=hQ ((hbr.block w.heap.size (Qaa HX3.out)).trans HX3.out);have HRR:=hQ ((hbr.block (w.heap.size+1) (Qaa HR3.out)).trans HR3.out);have HLR:=hQ (HLD.out.keep hbr);have HGW:=hQ (show w.heap.size+1<w3.heap.size from Qaa HR3.out);clear hkl hrow htn hsl hc1 hc2 hbr
    by_cases hlt:j<t.kids.length
    ·obtain⟨k,hk⟩:∃ k,t.kids[j]? = some k:=⟨_,xF hlt⟩;obtain⟨_,kb,ko,hka,hkb,u,c0,c1,c2,c3,hu⟩:=(HT.out.keep HBW.out).kid hk;subst hka;have HKB2:=hQ hkb;have HU:=hQ hu;have HK:=hQ hk;have HNK:=hQ (show SizeOf.sizeOf k<=N from by have:=Qar hk;have:=HN.out;omega);have HSHK:=hQ (HKID.out j k hk);have HTIK:=hQ (Qnx t.kids j k HKT.out hk);have HSZK:=hQ (xQ (Qbi hk) HSZ.out);have GC0:=hQ c0;have GC1:=hQ c1;have GC2:=hQ c2;have GC3:=hQ c3;have GKL:=hQ (xK wr _ c0);have k0:wr.cell? ⟨w.heap.size,0,none⟩=some (.int .i64 vk):=Qab HXR.out 0 _ rfl;have k1:wr.cell? ⟨w.heap.size,1,none⟩=some (.string t.text):=Qab HXR.out 1 _ rfl;have k2:wr.cell? ⟨w.heap.size,2,none⟩=some (.slice vla t.leads.length vlc):=Qab HXR.out 2 _ rfl;have k3:wr.cell? ⟨w.heap.size,3,none⟩=some (.slice (some ⟨kb,ko,none⟩) t.kids.length vkc):=Qab HXR.out 3 _ rfl;have kl:=Qaa HXR.out;have cl:=xK wr _ c0;have hj0:(0:Int)<=(j:Int):=by omega
     have hj1:(j:Int)<(t.kids.length:Int):=by omega
     obtain⟨z0,hz0⟩:∃ z,cs[j*4]? = some z:=⟨_,Array.getElem?_eq_getElem (by have:=HC2.out;omega)⟩;obtain⟨z1,hz1⟩:∃ z,cs[j*4+1]? = some z:=⟨_,Array.getElem?_eq_getElem (by have:=HC2.out;omega)⟩;obtain⟨z2,hz2⟩:∃ z,cs[j*4+2]? = some z:=⟨_,Array.getElem?_eq_getElem (by have:=HC2.out;omega)⟩;obtain⟨z3,hz3⟩:∃ z,cs[j*4+3]? = some z:=⟨_,Array.getElem?_eq_getElem (by have:=HC2.out;omega)⟩;have HZ0':=hQ hz0;have HZ1':=hQ hz1;have HZ2':=hQ hz2;have HZ3':=hQ hz3;clear hk hu hz0 hz1 hz2 hz3 hkb;go_wp2_with fail
     go_region_held3 (fun w'=>w'.cell? ⟨w.heap.size,0,none⟩=some (.int .i64 vk)/\w'.cell? ⟨w.heap.size,1,none⟩=some (.string t.text)/\w'.cell? ⟨w.heap.size,2,none⟩=some (.slice vla t.leads.length vlc)/\w'.cell? ⟨w.heap.size,3,none⟩=some (.slice (some ⟨kb,ko,none⟩) t.kids.length vkc)/\w'.cell? ⟨kb,ko+j*4,none⟩=some (.int .i64 u.kind)/\w'.cell? ⟨kb,ko+j*4+1,none⟩=some (.string u.text)/\w'.cell? ⟨kb,ko+j*4+2,none⟩=some (.slice u.la u.ll u.lc)/\w'.cell? ⟨kb,ko+j*4+3,none⟩=some (.slice u.ka u.kl u.kc)) (first | with_reducible exact⟨k0,k1,k2,k3,c0,c1,c2,c3⟩ | go_keep | exact⟨(Qgc (w:=w6) (U:=w3.heap.size) (o:=j*4) (y:=y) GN1.out).trans k0,(Qgc (w:=w6) (U:=w3.heap.size) (o:=j*4) (y:=y) GN1.out).trans k1,(Qgc (w:=w6) (U:=w3.heap.size) (o:=j*4) (y:=y) GN1.out).trans k2,(Qgc (w:=w6) (U:=w3.heap.size) (o:=j*4) (y:=y) GN1.out).trans k3,(Qgc (w:=w6) (U:=w3.heap.size) (o:=j*4) (y:=y) GN2.out).trans c0,(Qgc (w:=w6) (U:=w3.heap.size) (o:=j*4) (y:=y) GN2.out).trans c1,(Qgc (w:=w6) (U:=w3.heap.size) (o:=j*4) (y:=y) GN2.out).trans c2,(Qgc (w:=w6) (U:=w3.heap.size) (o:=j*4) (y:=y) GN2.out).trans c3⟩) (first
      | (go_simp;go_at_call 142;refine(Qy8 (⟨vk,t.text,vla,t.leads.length,vlc,some ⟨kb,ko,none⟩,t.kids.length,vkc⟩:TV) j s _ HSS.out).mono ?_;rintro e w5⟨s5,rfl,hs5,hb5⟩;have HS5:=hQ hs5;have HB5:=hQ (Qi2 hb5);have HX5:=hQ ((HB5.out.block w.heap.size (Qaa HXR.out)).trans HXR.out);clear hs5 hb5 k0 k1 k2 k3 kl c0 c1 c2 c3 cl;have k0:w5.cell? ⟨w.heap.size,0,none⟩=some (.int .i64 vk):=Qab HX5.out 0 _ rfl;have k1:w5.cell? ⟨w.heap.size,1,none⟩=some (.string t.text):=Qab HX5.out 1 _ rfl;have k2:w5.cell? ⟨w.heap.size,2,none⟩=some (.slice vla t.leads.length vlc):=Qab HX5.out 2 _ rfl;have k3:w5.cell? ⟨w.heap.size,3,none⟩=some (.slice (some ⟨kb,ko,none⟩) t.kids.length vkc):=Qab HX5.out 3 _ rfl;have kl:w.heap.size<w5.heap.size:=Qaa HX5.out;have c0:w5.cell? ⟨kb,ko+j*4,none⟩=some (.int .i64 u.kind):=(xJ (w:=wr) (a:=⟨kb,ko+j*4,none⟩) (HB5.out.block kb GKL.out)).trans GC0.out;have c1:w5.cell? ⟨kb,ko+j*4+1,none⟩=some (.string u.text):=(xJ (w:=wr) (a:=⟨kb,ko+j*4+1,none⟩) (HB5.out.block kb GKL.out)).trans GC1.out;have c2:w5.cell? ⟨kb,ko+j*4+2,none⟩=some (.slice u.la u.ll u.lc):=(xJ (w:=wr) (a:=⟨kb,ko+j*4+2,none⟩) (HB5.out.block kb GKL.out)).trans GC2.out;have c3:w5.cell? ⟨kb,ko+j*4+3,none⟩=some (.slice u.ka u.kl u.kc):=(xJ (w:=wr) (a:=⟨kb,ko+j*4+3,none⟩) (HB5.out.block kb GKL.out)).trans GC3.out;have cl:kb<w5.heap.size:=xE GKL.out HB5.out.size)
      | (go_simp;go_at_call 102;refine(HIH.out (fun b=>b<w.heap.size) k u s5 w5 HNK.out (HU.out.keep HB5.out) HSHK.out HTIK.out HSZK.out HS5.out).mono ?_;rintro e w6⟨t',y,rfl,hty,hsz',hti',hb6,_⟩;have HTY:=hQ hty;have HSZ':=hQ hsz';have HTI':=hQ hti';have HB6:=hQ (HB5.out.trans (hb6.mono HB5.out.size));have H56:=hQ hb6;have HX6:=hQ ((HB6.out.block w.heap.size (Qaa HXR.out)).trans HXR.out);have HC6:=hQ ((HB6.out.block w3.heap.size (Qaa HC1.out)).trans HC1.out);have GN1:=hQ (show w.heap.size≠w3.heap.size from(by have:=HGW.out;omega));have GN2:=hQ (show kb≠w3.heap.size from(by have:=HGW.out;have:=HKB2.out;omega));clear hty hsz' hti' hb6 k0 k1 k2 k3 kl c0 c1 c2 c3 cl;have k0:w6.cell? ⟨w.heap.size,0,none⟩=some (.int .i64 vk):=Qab HX6.out 0 _ rfl;have k1:w6.cell? ⟨w.heap.size,1,none⟩=some (.string t.text):=Qab HX6.out 1 _ rfl;have k2:w6.cell? ⟨w.heap.size,2,none⟩=some (.slice vla t.leads.length vlc):=Qab HX6.out 2 _ rfl;have k3:w6.cell? ⟨w.heap.size,3,none⟩=some (.slice (some ⟨kb,ko,none⟩) t.kids.length vkc):=Qab HX6.out 3 _ rfl;have kl:w.heap.size<w6.heap.size:=Qaa HX6.out;have c0:w6.cell? ⟨kb,ko+j*4,none⟩=some (.int .i64 u.kind):=(xJ (w:=wr) (a:=⟨kb,ko+j*4,none⟩) (HB6.out.block kb GKL.out)).trans GC0.out;have c1:w6.cell? ⟨kb,ko+j*4+1,none⟩=some (.string u.text):=(xJ (w:=wr) (a:=⟨kb,ko+j*4+1,none⟩) (HB6.out.block kb GKL.out)).trans GC1.out;have c2:w6.cell? ⟨kb,ko+j*4+2,none⟩=some (.slice u.la u.ll u.lc):=(xJ (w:=wr) (a:=⟨kb,ko+j*4+2,none⟩) (HB6.out.block kb GKL.out)).trans GC2.out;have c3:w6.cell? ⟨kb,ko+j*4+3,none⟩=some (.slice u.ka u.kl u.kc):=(xJ (w:=wr) (a:=⟨kb,ko+j*4+3,none⟩) (HB6.out.block kb GKL.out)).trans GC3.out;have cl:kb<w6.heap.size:=xE GKL.out HB6.out.size;have e0:w6.cell? ⟨w3.heap.size,j*4,none⟩=some z0:=Qab HC6.out _ _ HZ0'.out;have e1:w6.cell? ⟨w3.heap.size,j*4+1,none⟩=some z1:=Qab HC6.out _ _ HZ1'.out;have e2:w6.cell? ⟨w3.heap.size,j*4+2,none⟩=some z2:=Qab HC6.out _ _ HZ2'.out;have e3:w6.cell? ⟨w3.heap.size,j*4+3,none⟩=some z3:=Qab HC6.out _ _ HZ3'.out;have el:w3.heap.size<w6.heap.size:=Qaa HC6.out;have ef:∀ o,w6.frozen? ⟨w3.heap.size,o,none⟩=false:=fun o=>xL HC6.out _)
      | fail)
     all_goals
      clear k0 k1 k2 k3 kl c0 c1 c2 c3 cl;have hj2:(j:Int)+1<=1001:=by have:=HKL.out;omega
      go_wp2;go_roundw
      case measure=>first | (simp[intOf];done) | (simp[intOf];omega)
      case rel =>
       have hz:=Qn5 w6 w3.heap.size (j*4) y;refine⟨j+1,ks ++ [t'],vs ++ [y],by go_num,by omega,by rw[xB,HKS.out];rfl,(HROW.out.other HB6.out.size (fun b _ hl=>HB6.out.block b hl)).snoc HKS.out.symm (fun cs' hc'=>by have h1:=HC6.out.symm.trans hc';injection h1 with h1;injection h1 with h1 _ _;subst h1;have:=HC2.out;omega) (TrAt.move (fun b hb=>⟨by have:=xE (Qaa HC1.out) HB5.out.size;omega,hb.2⟩) (fun _ _ _=>rfl) _ _ HTY.out),by rw[Qg7,HTN.out,Qbu,HTI'.out,Qbu];rfl,by rw[Qel,Qe9 HK.out,HSL.out,Qal,Qal,HSZ'.out,Nat.add_zero],⟨_,Qn4 (j*4) y HC6.out,by rw[Zdc];exact HC2.out⟩,(yC HBR.out HB6.out).trans (Qyv w6 (j*4) y (xA _))⟩
    ·obtain rfl:j=t.kids.length:=by omega
     have hE:ArE vk U w3.heap.size la q lc t (⟨vk,t.text,vla,t.leads.length,vlc,vka,t.kids.length,vkc⟩:TV) ks vs w wr:=⟨HLR.out,HRR.out,HXR.out,HROW.out,Qaa HLD.out.blk,fun hq g hg=>by obtain⟨g',e',_,_,h3,_⟩:=HLD.out.at hq;rw[hg]at e';injection e' with e';injection e' with e' _ _;omega,yC HB0.out HBW.out⟩;have HE:=hQ hE;have HSS2:=hQ (show Qal ks=Qal t.kids from by rw[HSL.out,List.take_length]);clear hE
     by_cases h17:vk=17\/vk=21
     ·rcases h17 with rfl | rfl
      ·obtain⟨x0,x1,x2,x3,xl,xf⟩:=Qah HE.out.res;have k0:wr.cell? ⟨w.heap.size,0,none⟩=some (.int .i64 17):=Qab HE.out.box 0 _ rfl;have kl:w.heap.size<wr.heap.size:=Qaa HE.out.box;have y0:wr.cell? ⟨U,0,none⟩=some (.int .i64 17):=Qab HE.out.ld.blk 0 _ rfl;have y1:wr.cell? ⟨U,1,none⟩=some (.string t.text):=Qab HE.out.ld.blk 1 _ rfl;have y2:wr.cell? ⟨U,2,none⟩=some (.slice la q lc):=Qab HE.out.ld.blk 2 _ rfl;have y3:wr.cell? ⟨U,3,none⟩=some (.slice none 0 0):=Qab HE.out.ld.blk 3 _ rfl;have yl:U<wr.heap.size:=Qaa HE.out.ld.blk;have yf:∀ o,wr.frozen? ⟨U,o,none⟩=false:=fun o=>xL HE.out.ld.blk _
       have nu1:U≠w.heap.size:=by have:=HE.out.ld.ru;omega
       have nu2:U≠w.heap.size+1:=by have:=HE.out.ld.ru;omega
       have nu3:w.heap.size≠U:=by omega
       have nu4:w.heap.size+1≠U:=by omega
       go_wp2;refine bodyPost_ret (v:=.agg #[.int .i64 17,.string t.text,.slice la q lc,.slice (some ⟨w3.heap.size,0,none⟩) t.kids.length t.kids.length]) (by simp[results,results102,go_sem, *]) rfl ?_;exact ArE.made HE.out HX7.out HQM.out HKS.out.symm HSS2.out HTN.out HE3.out
      ·obtain⟨x0,x1,x2,x3,xl,xf⟩:=Qah HE.out.res;have k0:wr.cell? ⟨w.heap.size,0,none⟩=some (.int .i64 21):=Qab HE.out.box 0 _ rfl;have kl:w.heap.size<wr.heap.size:=Qaa HE.out.box;have y0:wr.cell? ⟨U,0,none⟩=some (.int .i64 21):=Qab HE.out.ld.blk 0 _ rfl;have y1:wr.cell? ⟨U,1,none⟩=some (.string t.text):=Qab HE.out.ld.blk 1 _ rfl;have y2:wr.cell? ⟨U,2,none⟩=some (.slice la q lc):=Qab HE.out.ld.blk 2 _ rfl;have y3:wr.cell? ⟨U,3,none⟩=some (.slice none 0 0):=Qab HE.out.ld.blk 3 _ rfl;have yl:U<wr.heap.size:=Qaa HE.out.ld.blk;have yf:∀ o,wr.frozen? ⟨U,o,none⟩=false:=fun o=>xL HE.out.ld.blk _
       have nu1:U≠w.heap.size:=by have:=HE.out.ld.ru;omega
       have nu2:U≠w.heap.size+1:=by have:=HE.out.ld.ru;omega
       have nu3:w.heap.size≠U:=by omega
       have nu4:w.heap.size+1≠U:=by omega
       go_wp2;refine bodyPost_ret (v:=.agg #[.int .i64 21,.string t.text,.slice la q lc,.slice (some ⟨w3.heap.size,0,none⟩) t.kids.length t.kids.length]) (by simp[results,results102,go_sem, *]) rfl ?_;exact ArE.made HE.out HX7.out HQM.out HKS.out.symm HSS2.out HTN.out HE3.out
     have n17:vk≠17:=fun h=>h17 (.inl h)
     have n21:vk≠21:=fun h=>h17 (.inr h)
     clear h17;have q17:=Qcr n17;have q21:=Qcr n21;have b17:(vk != 17)=true:=by simpa using n17
     have b21:(vk != 21)=true:=by simpa using n21
     have HQS:=hQ (show 0<q from by have:=Qy5 n17 (show 0<=Qat vk t.kids.length from by rw[HQ.out];omega);rw[HQ.out]at this;omega)
     by_cases h1:vk=1
     ·subst h1;have HQ3:=hQ (show q=3 from by have:=Zd7 (n:=(t.kids.length:Int)) (by omega);rw[HQ.out]at this;omega);have HQ0:=hQ (show 0<q from HQS.out);obtain⟨g,hla,hg1,hg2,hg3,hg4,hg5⟩:=HE.out.ld.at HQ0.out;subst hla;have ng1:g≠U:=hg2;have ng2:U≠g:=fun e=>hg2 e.symm
      have ng3:g≠w.heap.size:=by omega
      have ng4:w.heap.size≠g:=by omega
      have ng5:g≠w.heap.size+1:=by omega
      have ng6:w.heap.size+1≠g:=by omega
      have HG5:=hQ hg5;clear hg1 hg2 hg5;obtain⟨x0,x1,x2,x3,xl,xf⟩:=Qah HE.out.res;have k0:wr.cell? ⟨w.heap.size,0,none⟩=some (.int .i64 1):=Qab HE.out.box 0 _ rfl;have kl:w.heap.size<wr.heap.size:=Qaa HE.out.box;have y0:wr.cell? ⟨U,0,none⟩=some (.int .i64 1):=Qab HE.out.ld.blk 0 _ rfl;have y1:wr.cell? ⟨U,1,none⟩=some (.string t.text):=Qab HE.out.ld.blk 1 _ rfl;have y2:wr.cell? ⟨U,2,none⟩=some (.slice (some ⟨g,0,none⟩) q lc):=Qab HE.out.ld.blk 2 _ rfl;have y3:wr.cell? ⟨U,3,none⟩=some (.slice none 0 0):=Qab HE.out.ld.blk 3 _ rfl;have yl:U<wr.heap.size:=Qaa HE.out.ld.blk;have yf:∀ o,wr.frozen? ⟨U,o,none⟩=false:=fun o=>xL HE.out.ld.blk _
      have nu1:U≠w.heap.size:=by have:=HE.out.ld.ru;omega
      have nu2:U≠w.heap.size+1:=by have:=HE.out.ld.ru;omega
      have nu3:w.heap.size≠U:=by omega
      have nu4:w.heap.size+1≠U:=by omega
      obtain⟨p0,hp0⟩:=HG5.out 0 HQ0.out;have hi0:(0:Int)<(q:Int):=by have:=HQ0.out;omega
      obtain⟨p2,hp2⟩:=HG5.out 2 (show 2<q from by have:=HQ3.out;omega);have hi2:(2:Int)<(q:Int):=by have:=(show 2<q from by have:=HQ3.out;omega);omega
      clear n17 n21 q17 q21 b17 b21;go_wp2;refine bodyPost_ret (v:=.agg #[.int .i64 1,.string t.text,.slice (some ⟨g,0,none⟩) q lc,.slice (some ⟨w3.heap.size,0,none⟩) t.kids.length t.kids.length]) (by simp[results,results102,go_sem, *]) rfl ?_;exact ArE.made ((HE.out.put HQ0.out HSS.out).put (show 2<q from by have:=HQ3.out;omega) (show(⟨#[10]⟩:yD).size<=5 from by decide)) HX7.out HQM.out HKS.out.symm HSS2.out HTN.out HE3.out
     have n1:vk≠1:=h1;have q1:=Qcr n1;clear h1
     by_cases h2:vk=2
     ·subst h2;have HQ6:=hQ (show 6<=q from by have:=Qy4 (n:=(t.kids.length:Int)) (by rw[HQ.out];omega);rw[HQ.out]at this;omega);have HQ0:=hQ (show 0<q from HQS.out);obtain⟨g,hla,hg1,hg2,hg3,hg4,hg5⟩:=HE.out.ld.at HQ0.out;subst hla;have ng1:g≠U:=hg2;have ng2:U≠g:=fun e=>hg2 e.symm
      have ng3:g≠w.heap.size:=by omega
      have ng4:w.heap.size≠g:=by omega
      have ng5:g≠w.heap.size+1:=by omega
      have ng6:w.heap.size+1≠g:=by omega
      have HG5:=hQ hg5;clear hg1 hg2 hg5;obtain⟨x0,x1,x2,x3,xl,xf⟩:=Qah HE.out.res;have k0:wr.cell? ⟨w.heap.size,0,none⟩=some (.int .i64 2):=Qab HE.out.box 0 _ rfl;have kl:w.heap.size<wr.heap.size:=Qaa HE.out.box;have y0:wr.cell? ⟨U,0,none⟩=some (.int .i64 2):=Qab HE.out.ld.blk 0 _ rfl;have y1:wr.cell? ⟨U,1,none⟩=some (.string t.text):=Qab HE.out.ld.blk 1 _ rfl;have y2:wr.cell? ⟨U,2,none⟩=some (.slice (some ⟨g,0,none⟩) q lc):=Qab HE.out.ld.blk 2 _ rfl;have y3:wr.cell? ⟨U,3,none⟩=some (.slice none 0 0):=Qab HE.out.ld.blk 3 _ rfl;have yl:U<wr.heap.size:=Qaa HE.out.ld.blk;have yf:∀ o,wr.frozen? ⟨U,o,none⟩=false:=fun o=>xL HE.out.ld.blk _
      have nu1:U≠w.heap.size:=by have:=HE.out.ld.ru;omega
      have nu2:U≠w.heap.size+1:=by have:=HE.out.ld.ru;omega
      have nu3:w.heap.size≠U:=by omega
      have nu4:w.heap.size+1≠U:=by omega
      obtain⟨p0,hp0⟩:=HG5.out 0 HQ0.out;have hi0:(0:Int)<(q:Int):=by have:=HQ0.out;omega
      clear n17 n21 q17 q21 b17 b21 n1 q1;go_upto_region 14 with fail
      have h7:=HE.out.put HQ0.out HSS.out;generalize wr.setCell ⟨g,0,none⟩ (.string s)=w7 at h7 |-;have H7:=hQ h7;clear h7 x0 x1 x2 x3 xl xf k0 kl y0 y1 y2 y3 yl yf hp0 hi0 hg3 hg4;obtain⟨x0,x1,x2,x3,xl,xf⟩:=Qah H7.out.res;have y0:w7.cell? ⟨U,0,none⟩=some (.int .i64 2):=Qab H7.out.ld.blk 0 _ rfl;have y1:w7.cell? ⟨U,1,none⟩=some (.string t.text):=Qab H7.out.ld.blk 1 _ rfl;have y2:w7.cell? ⟨U,2,none⟩=some (.slice (some ⟨g,0,none⟩) q lc):=Qab H7.out.ld.blk 2 _ rfl;have y3:w7.cell? ⟨U,3,none⟩=some (.slice none 0 0):=Qab H7.out.ld.blk 3 _ rfl;have yl:U<w7.heap.size:=Qaa H7.out.ld.blk;have yf:∀ o,w7.frozen? ⟨U,o,none⟩=false:=fun o=>xL H7.out.ld.blk _
      obtain⟨g',hla,_,_,hg3,hg4,hg5⟩:=H7.out.ld.at HQ0.out;injection hla with hla;injection hla with hla _ _;subst hla;obtain⟨p2,hp2⟩:=hg5 2 (by have:=HQ6.out;omega);obtain⟨p3,hp3⟩:=hg5 3 (by have:=HQ6.out;omega);obtain⟨p4,hp4⟩:=hg5 4 (by have:=HQ6.out;omega);have hi2:(2:Int)<(q:Int):=by have:=HQ6.out;omega
      have hi3:(3:Int)<(q:Int):=by have:=HQ6.out;omega
      have hi4:(4:Int)<(q:Int):=by have:=HQ6.out;omega
      clear hg5
      go_cut [65] (fun _ wx=>ArE 2 U w3.heap.size (some ⟨g,0,none⟩) q lc t (⟨2,t.text,vla,t.leads.length,vlc,vka,t.kids.length,vkc⟩:TV) ks vs w wx)
      case first =>
       go_region_held3 (fun w'=>w'.cell? ⟨U,2,none⟩=some (.slice (some ⟨g,0,none⟩) q lc)) (first | with_reducible exact y2 | go_keep) (fail)
       all_goals
        go_wp2_with fail;go_meet
        first
         | exact((H7.out.put (by have:=HQ6.out;omega) (by decide)).put (by have:=HQ6.out;omega) (by decide)).put (by have:=HQ6.out;omega) (by decide)
         | exact(((H7.out.put (by have:=HQ6.out;omega) (by decide)).put (by have:=HQ6.out;omega) (by decide)).put (by have:=HQ6.out;omega) (by decide)).drew
      case rest =>
       obtain⟨w8,hww⟩:∃ w',w'=wc:=⟨_,rfl⟩;subst hww;have H8:=hQ hcut;clear hcut x0 x1 x2 x3 xl xf y0 y1 y2 y3 yl yf hp2 hp3 hp4 hg3 hg4;go_wp2
       go_loopw [9] (fun i wx=>∃ m:Nat,i = .int .i64 m/\ArE 2 U w3.heap.size (some ⟨g,0,none⟩) q lc t (⟨2,t.text,vla,t.leads.length,vlc,vka,t.kids.length,vkc⟩:TV) ks vs w wx) (fun i _=>q-(intOf i).toNat)
       case atStart=>exact⟨6,rfl,H8.out⟩
       case round =>
        obtain⟨m,rfl,hE⟩:=hrel;have HF:=hQ hE;clear hE;obtain⟨x0,x1,x2,x3,xl,xf⟩:=Qah HF.out.res;have y0:wr.cell? ⟨U,0,none⟩=some (.int .i64 2):=Qab HF.out.ld.blk 0 _ rfl;have y1:wr.cell? ⟨U,1,none⟩=some (.string t.text):=Qab HF.out.ld.blk 1 _ rfl;have y2:wr.cell? ⟨U,2,none⟩=some (.slice (some ⟨g,0,none⟩) q lc):=Qab HF.out.ld.blk 2 _ rfl;have y3:wr.cell? ⟨U,3,none⟩=some (.slice none 0 0):=Qab HF.out.ld.blk 3 _ rfl;have yl:U<wr.heap.size:=Qaa HF.out.ld.blk;have yf:∀ o,wr.frozen? ⟨U,o,none⟩=false:=fun o=>xL HF.out.ld.blk _
        have hq1:(q:Int)<=1006:=by have:=HQM.out;have:=HKL.out;omega
        by_cases hlt:m<q
        ·obtain⟨g',hla,_,hg2,hg3,hg4,hg5⟩:=HF.out.ld.at hlt;injection hla with hla;injection hla with hla _ _;subst hla;obtain⟨pm,hpm⟩:=hg5 m hlt;have hm0:(0:Int)<=(m:Int):=by omega
         have hm1:(m:Int)<(q:Int):=by omega
         have HLT:=hQ hlt;clear hg2 hg5;go_wp2;go_roundw
         case measure=>first | (simp[intOf];done) | (simp[intOf];omega)
         case rel=>exact⟨m+1,by go_num,HF.out.put HLT.out (by decide)⟩
        ·go_wp2;refine bodyPost_ret (v:=.agg #[.int .i64 2,.string t.text,.slice (some ⟨g,0,none⟩) q lc,.slice (some ⟨w3.heap.size,0,none⟩) t.kids.length t.kids.length]) (by simp[results,results102,go_sem, *]) rfl ?_;exact ArE.made HF.out HX7.out HQM.out HKS.out.symm HSS2.out HTN.out HE3.out
     have n2:vk≠2:=h2;have q2:=Qcr n2;clear h2
     by_cases h4:vk=4\/vk=8\/vk=22
     ·have HQ2:=hQ (show q=2 from by have:=Zd8 (n:=(t.kids.length:Int)) h4 (by rw[HQ.out];omega);rw[HQ.out]at this;omega)
      rcases h4 with rfl | rfl | rfl
      ·have HQ0:=hQ (show 0<q from HQS.out);obtain⟨g,hla,hg1,hg2,hg3,hg4,hg5⟩:=HE.out.ld.at HQ0.out;subst hla;have ng1:g≠U:=hg2;have ng2:U≠g:=fun e=>hg2 e.symm
       have ng3:g≠w.heap.size:=by omega
       have ng4:w.heap.size≠g:=by omega
       have ng5:g≠w.heap.size+1:=by omega
       have ng6:w.heap.size+1≠g:=by omega
       have HG5:=hQ hg5;clear hg1 hg2 hg5;obtain⟨x0,x1,x2,x3,xl,xf⟩:=Qah HE.out.res;have k0:wr.cell? ⟨w.heap.size,0,none⟩=some (.int .i64 4):=Qab HE.out.box 0 _ rfl;have kl:w.heap.size<wr.heap.size:=Qaa HE.out.box;have y0:wr.cell? ⟨U,0,none⟩=some (.int .i64 4):=Qab HE.out.ld.blk 0 _ rfl;have y1:wr.cell? ⟨U,1,none⟩=some (.string t.text):=Qab HE.out.ld.blk 1 _ rfl;have y2:wr.cell? ⟨U,2,none⟩=some (.slice (some ⟨g,0,none⟩) q lc):=Qab HE.out.ld.blk 2 _ rfl;have y3:wr.cell? ⟨U,3,none⟩=some (.slice none 0 0):=Qab HE.out.ld.blk 3 _ rfl;have yl:U<wr.heap.size:=Qaa HE.out.ld.blk;have yf:∀ o,wr.frozen? ⟨U,o,none⟩=false:=fun o=>xL HE.out.ld.blk _
       have nu1:U≠w.heap.size:=by have:=HE.out.ld.ru;omega
       have nu2:U≠w.heap.size+1:=by have:=HE.out.ld.ru;omega
       have nu3:w.heap.size≠U:=by omega
       have nu4:w.heap.size+1≠U:=by omega
       obtain⟨p0,hp0⟩:=HG5.out 0 HQ0.out;have hi0:(0:Int)<(q:Int):=by have:=HQ0.out;omega
       obtain⟨p1,hp1⟩:=HG5.out 1 (show 1<q from by have:=HQ2.out;omega);have hi1:(1:Int)<(q:Int):=by have:=(show 1<q from by have:=HQ2.out;omega);omega
       clear n17 n21 q17 q21 b17 b21 n1 q1 n2 q2;go_wp2;refine bodyPost_ret (v:=.agg #[.int .i64 4,.string t.text,.slice (some ⟨g,0,none⟩) q lc,.slice (some ⟨w3.heap.size,0,none⟩) t.kids.length t.kids.length]) (by simp[results,results102,go_sem, *]) rfl ?_;exact ArE.made ((HE.out.put HQ0.out HSS.out).put (show 1<q from by have:=HQ2.out;omega) (show(⟨#[]⟩:yD).size<=5 from by decide)) HX7.out HQM.out HKS.out.symm HSS2.out HTN.out HE3.out
      ·have HQ0:=hQ (show 0<q from HQS.out);obtain⟨g,hla,hg1,hg2,hg3,hg4,hg5⟩:=HE.out.ld.at HQ0.out;subst hla;have ng1:g≠U:=hg2;have ng2:U≠g:=fun e=>hg2 e.symm
       have ng3:g≠w.heap.size:=by omega
       have ng4:w.heap.size≠g:=by omega
       have ng5:g≠w.heap.size+1:=by omega
       have ng6:w.heap.size+1≠g:=by omega
       have HG5:=hQ hg5;clear hg1 hg2 hg5;obtain⟨x0,x1,x2,x3,xl,xf⟩:=Qah HE.out.res;have k0:wr.cell? ⟨w.heap.size,0,none⟩=some (.int .i64 8):=Qab HE.out.box 0 _ rfl;have kl:w.heap.size<wr.heap.size:=Qaa HE.out.box;have y0:wr.cell? ⟨U,0,none⟩=some (.int .i64 8):=Qab HE.out.ld.blk 0 _ rfl;have y1:wr.cell? ⟨U,1,none⟩=some (.string t.text):=Qab HE.out.ld.blk 1 _ rfl;have y2:wr.cell? ⟨U,2,none⟩=some (.slice (some ⟨g,0,none⟩) q lc):=Qab HE.out.ld.blk 2 _ rfl;have y3:wr.cell? ⟨U,3,none⟩=some (.slice none 0 0):=Qab HE.out.ld.blk 3 _ rfl;have yl:U<wr.heap.size:=Qaa HE.out.ld.blk;have yf:∀ o,wr.frozen? ⟨U,o,none⟩=false:=fun o=>xL HE.out.ld.blk _
       have nu1:U≠w.heap.size:=by have:=HE.out.ld.ru;omega
       have nu2:U≠w.heap.size+1:=by have:=HE.out.ld.ru;omega
       have nu3:w.heap.size≠U:=by omega
       have nu4:w.heap.size+1≠U:=by omega
       obtain⟨p0,hp0⟩:=HG5.out 0 HQ0.out;have hi0:(0:Int)<(q:Int):=by have:=HQ0.out;omega
       obtain⟨p1,hp1⟩:=HG5.out 1 (show 1<q from by have:=HQ2.out;omega);have hi1:(1:Int)<(q:Int):=by have:=(show 1<q from by have:=HQ2.out;omega);omega
       clear n17 n21 q17 q21 b17 b21 n1 q1 n2 q2;go_wp2;refine bodyPost_ret (v:=.agg #[.int .i64 8,.string t.text,.slice (some ⟨g,0,none⟩) q lc,.slice (some ⟨w3.heap.size,0,none⟩) t.kids.length t.kids.length]) (by simp[results,results102,go_sem, *]) rfl ?_;exact ArE.made ((HE.out.put HQ0.out HSS.out).put (show 1<q from by have:=HQ2.out;omega) (show(⟨#[]⟩:yD).size<=5 from by decide)) HX7.out HQM.out HKS.out.symm HSS2.out HTN.out HE3.out
      ·have HQ0:=hQ (show 0<q from HQS.out);obtain⟨g,hla,hg1,hg2,hg3,hg4,hg5⟩:=HE.out.ld.at HQ0.out;subst hla;have ng1:g≠U:=hg2;have ng2:U≠g:=fun e=>hg2 e.symm
       have ng3:g≠w.heap.size:=by omega
       have ng4:w.heap.size≠g:=by omega
       have ng5:g≠w.heap.size+1:=by omega
       have ng6:w.heap.size+1≠g:=by omega
       have HG5:=hQ hg5;clear hg1 hg2 hg5;obtain⟨x0,x1,x2,x3,xl,xf⟩:=Qah HE.out.res;have k0:wr.cell? ⟨w.heap.size,0,none⟩=some (.int .i64 22):=Qab HE.out.box 0 _ rfl;have kl:w.heap.size<wr.heap.size:=Qaa HE.out.box;have y0:wr.cell? ⟨U,0,none⟩=some (.int .i64 22):=Qab HE.out.ld.blk 0 _ rfl;have y1:wr.cell? ⟨U,1,none⟩=some (.string t.text):=Qab HE.out.ld.blk 1 _ rfl;have y2:wr.cell? ⟨U,2,none⟩=some (.slice (some ⟨g,0,none⟩) q lc):=Qab HE.out.ld.blk 2 _ rfl;have y3:wr.cell? ⟨U,3,none⟩=some (.slice none 0 0):=Qab HE.out.ld.blk 3 _ rfl;have yl:U<wr.heap.size:=Qaa HE.out.ld.blk;have yf:∀ o,wr.frozen? ⟨U,o,none⟩=false:=fun o=>xL HE.out.ld.blk _
       have nu1:U≠w.heap.size:=by have:=HE.out.ld.ru;omega
       have nu2:U≠w.heap.size+1:=by have:=HE.out.ld.ru;omega
       have nu3:w.heap.size≠U:=by omega
       have nu4:w.heap.size+1≠U:=by omega
       obtain⟨p0,hp0⟩:=HG5.out 0 HQ0.out;have hi0:(0:Int)<(q:Int):=by have:=HQ0.out;omega
       obtain⟨p1,hp1⟩:=HG5.out 1 (show 1<q from by have:=HQ2.out;omega);have hi1:(1:Int)<(q:Int):=by have:=(show 1<q from by have:=HQ2.out;omega);omega
       clear n17 n21 q17 q21 b17 b21 n1 q1 n2 q2;go_wp2;refine bodyPost_ret (v:=.agg #[.int .i64 22,.string t.text,.slice (some ⟨g,0,none⟩) q lc,.slice (some ⟨w3.heap.size,0,none⟩) t.kids.length t.kids.length]) (by simp[results,results102,go_sem, *]) rfl ?_;exact ArE.made ((HE.out.put HQ0.out HSS.out).put (show 1<q from by have:=HQ2.out;omega) (show(⟨#[]⟩:yD).size<=5 from by decide)) HX7.out HQM.out HKS.out.symm HSS2.out HTN.out HE3.out
     have n4:vk≠4:=fun h=>h4 (.inl h)
     have n8:vk≠8:=fun h=>h4 (.inr (.inl h))
     have n22:vk≠22:=fun h=>h4 (.inr (.inr h))
     have q4:=Qcr n4;have q8:=Qcr n8;have q22:=Qcr n22;clear h4
     by_cases h16:vk=16\/vk=18
     ·rcases h16 with rfl | rfl
      ·have HQ0:=hQ (show 0<q from HQS.out);obtain⟨g,hla,hg1,hg2,hg3,hg4,hg5⟩:=HE.out.ld.at HQ0.out;subst hla;have ng1:g≠U:=hg2;have ng2:U≠g:=fun e=>hg2 e.symm
       have ng3:g≠w.heap.size:=by omega
       have ng4:w.heap.size≠g:=by omega
       have ng5:g≠w.heap.size+1:=by omega
       have ng6:w.heap.size+1≠g:=by omega
       have HG5:=hQ hg5;clear hg1 hg2 hg5;obtain⟨x0,x1,x2,x3,xl,xf⟩:=Qah HE.out.res;have k0:wr.cell? ⟨w.heap.size,0,none⟩=some (.int .i64 16):=Qab HE.out.box 0 _ rfl;have kl:w.heap.size<wr.heap.size:=Qaa HE.out.box;have y0:wr.cell? ⟨U,0,none⟩=some (.int .i64 16):=Qab HE.out.ld.blk 0 _ rfl;have y1:wr.cell? ⟨U,1,none⟩=some (.string t.text):=Qab HE.out.ld.blk 1 _ rfl;have y2:wr.cell? ⟨U,2,none⟩=some (.slice (some ⟨g,0,none⟩) q lc):=Qab HE.out.ld.blk 2 _ rfl;have y3:wr.cell? ⟨U,3,none⟩=some (.slice none 0 0):=Qab HE.out.ld.blk 3 _ rfl;have yl:U<wr.heap.size:=Qaa HE.out.ld.blk;have yf:∀ o,wr.frozen? ⟨U,o,none⟩=false:=fun o=>xL HE.out.ld.blk _
       have nu1:U≠w.heap.size:=by have:=HE.out.ld.ru;omega
       have nu2:U≠w.heap.size+1:=by have:=HE.out.ld.ru;omega
       have nu3:w.heap.size≠U:=by omega
       have nu4:w.heap.size+1≠U:=by omega
       obtain⟨p0,hp0⟩:=HG5.out 0 HQ0.out;have hi0:(0:Int)<(q:Int):=by have:=HQ0.out;omega
       clear n17 n21 q17 q21 b17 b21 n1 q1 n2 q2 n4 n8 n22 q4 q8 q22;go_wp2;clear x0 x1 x2 x3 xl xf k0 kl y0 y1 y2 y3 yl yf hp0 hi0 hg3 hg4
       go_loopw [10] (fun i wx=>∃ m:Nat,i = .int .i64 m/\ArE 16 U w3.heap.size (some ⟨g,0,none⟩) q lc t (⟨16,t.text,vla,t.leads.length,vlc,vka,t.kids.length,vkc⟩:TV) ks vs w wx) (fun i _=>q-(intOf i).toNat)
       case atStart=>exact⟨1,rfl,HE.out.put HQ0.out HSS.out⟩
       case round =>
        obtain⟨m,rfl,hE⟩:=hrel;have HF:=hQ hE;clear hE;obtain⟨x0,x1,x2,x3,xl,xf⟩:=Qah HF.out.res;have y0:wr.cell? ⟨U,0,none⟩=some (.int .i64 16):=Qab HF.out.ld.blk 0 _ rfl;have y1:wr.cell? ⟨U,1,none⟩=some (.string t.text):=Qab HF.out.ld.blk 1 _ rfl;have y2:wr.cell? ⟨U,2,none⟩=some (.slice (some ⟨g,0,none⟩) q lc):=Qab HF.out.ld.blk 2 _ rfl;have y3:wr.cell? ⟨U,3,none⟩=some (.slice none 0 0):=Qab HF.out.ld.blk 3 _ rfl;have yl:U<wr.heap.size:=Qaa HF.out.ld.blk;have yf:∀ o,wr.frozen? ⟨U,o,none⟩=false:=fun o=>xL HF.out.ld.blk _
        have hq1:(q:Int)<=1006:=by have:=HQM.out;have:=HKL.out;omega
        by_cases hlt:m<q
        ·obtain⟨g',hla,_,hg2,hg3,hg4,hg5⟩:=HF.out.ld.at hlt;injection hla with hla;injection hla with hla _ _;subst hla;obtain⟨pm,hpm⟩:=hg5 m hlt;have hm0:(0:Int)<=(m:Int):=by omega
         have hm1:(m:Int)<(q:Int):=by omega
         have HLT:=hQ hlt;clear hg2 hg5;go_wp2;go_roundw
         case measure=>first | (simp[intOf];done) | (simp[intOf];omega)
         case rel=>exact⟨m+1,by go_num,HF.out.put HLT.out (by decide)⟩
        ·go_wp2;refine bodyPost_ret (v:=.agg #[.int .i64 16,.string t.text,.slice (some ⟨g,0,none⟩) q lc,.slice (some ⟨w3.heap.size,0,none⟩) t.kids.length t.kids.length]) (by simp[results,results102,go_sem, *]) rfl ?_;exact ArE.made HF.out HX7.out HQM.out HKS.out.symm HSS2.out HTN.out HE3.out
      ·have HQ0:=hQ (show 0<q from HQS.out);obtain⟨g,hla,hg1,hg2,hg3,hg4,hg5⟩:=HE.out.ld.at HQ0.out;subst hla;have ng1:g≠U:=hg2;have ng2:U≠g:=fun e=>hg2 e.symm
       have ng3:g≠w.heap.size:=by omega
       have ng4:w.heap.size≠g:=by omega
       have ng5:g≠w.heap.size+1:=by omega
       have ng6:w.heap.size+1≠g:=by omega
       have HG5:=hQ hg5;clear hg1 hg2 hg5;obtain⟨x0,x1,x2,x3,xl,xf⟩:=Qah HE.out.res;have k0:wr.cell? ⟨w.heap.size,0,none⟩=some (.int .i64 18):=Qab HE.out.box 0 _ rfl;have kl:w.heap.size<wr.heap.size:=Qaa HE.out.box;have y0:wr.cell? ⟨U,0,none⟩=some (.int .i64 18):=Qab HE.out.ld.blk 0 _ rfl;have y1:wr.cell? ⟨U,1,none⟩=some (.string t.text):=Qab HE.out.ld.blk 1 _ rfl;have y2:wr.cell? ⟨U,2,none⟩=some (.slice (some ⟨g,0,none⟩) q lc):=Qab HE.out.ld.blk 2 _ rfl;have y3:wr.cell? ⟨U,3,none⟩=some (.slice none 0 0):=Qab HE.out.ld.blk 3 _ rfl;have yl:U<wr.heap.size:=Qaa HE.out.ld.blk;have yf:∀ o,wr.frozen? ⟨U,o,none⟩=false:=fun o=>xL HE.out.ld.blk _
       have nu1:U≠w.heap.size:=by have:=HE.out.ld.ru;omega
       have nu2:U≠w.heap.size+1:=by have:=HE.out.ld.ru;omega
       have nu3:w.heap.size≠U:=by omega
       have nu4:w.heap.size+1≠U:=by omega
       obtain⟨p0,hp0⟩:=HG5.out 0 HQ0.out;have hi0:(0:Int)<(q:Int):=by have:=HQ0.out;omega
       clear n17 n21 q17 q21 b17 b21 n1 q1 n2 q2 n4 n8 n22 q4 q8 q22;go_wp2;clear x0 x1 x2 x3 xl xf k0 kl y0 y1 y2 y3 yl yf hp0 hi0 hg3 hg4
       go_loopw [10] (fun i wx=>∃ m:Nat,i = .int .i64 m/\ArE 18 U w3.heap.size (some ⟨g,0,none⟩) q lc t (⟨18,t.text,vla,t.leads.length,vlc,vka,t.kids.length,vkc⟩:TV) ks vs w wx) (fun i _=>q-(intOf i).toNat)
       case atStart=>exact⟨1,rfl,HE.out.put HQ0.out HSS.out⟩
       case round =>
        obtain⟨m,rfl,hE⟩:=hrel;have HF:=hQ hE;clear hE;obtain⟨x0,x1,x2,x3,xl,xf⟩:=Qah HF.out.res;have y0:wr.cell? ⟨U,0,none⟩=some (.int .i64 18):=Qab HF.out.ld.blk 0 _ rfl;have y1:wr.cell? ⟨U,1,none⟩=some (.string t.text):=Qab HF.out.ld.blk 1 _ rfl;have y2:wr.cell? ⟨U,2,none⟩=some (.slice (some ⟨g,0,none⟩) q lc):=Qab HF.out.ld.blk 2 _ rfl;have y3:wr.cell? ⟨U,3,none⟩=some (.slice none 0 0):=Qab HF.out.ld.blk 3 _ rfl;have yl:U<wr.heap.size:=Qaa HF.out.ld.blk;have yf:∀ o,wr.frozen? ⟨U,o,none⟩=false:=fun o=>xL HF.out.ld.blk _
        have hq1:(q:Int)<=1006:=by have:=HQM.out;have:=HKL.out;omega
        by_cases hlt:m<q
        ·obtain⟨g',hla,_,hg2,hg3,hg4,hg5⟩:=HF.out.ld.at hlt;injection hla with hla;injection hla with hla _ _;subst hla;obtain⟨pm,hpm⟩:=hg5 m hlt;have hm0:(0:Int)<=(m:Int):=by omega
         have hm1:(m:Int)<(q:Int):=by omega
         have HLT:=hQ hlt;clear hg2 hg5;go_wp2;go_roundw
         case measure=>first | (simp[intOf];done) | (simp[intOf];omega)
         case rel=>exact⟨m+1,by go_num,HF.out.put HLT.out (by decide)⟩
        ·go_wp2;refine bodyPost_ret (v:=.agg #[.int .i64 18,.string t.text,.slice (some ⟨g,0,none⟩) q lc,.slice (some ⟨w3.heap.size,0,none⟩) t.kids.length t.kids.length]) (by simp[results,results102,go_sem, *]) rfl ?_;exact ArE.made HF.out HX7.out HQM.out HKS.out.symm HSS2.out HTN.out HE3.out
     have n16:vk≠16:=fun h=>h16 (.inl h)
     have n18:vk≠18:=fun h=>h16 (.inr h)
     have q16:=Qcr n16;have q18:=Qcr n18;clear h16;have HQ0:=hQ (show 0<q from HQS.out);obtain⟨g,hla,hg1,hg2,hg3,hg4,hg5⟩:=HE.out.ld.at HQ0.out;subst hla;have ng1:g≠U:=hg2;have ng2:U≠g:=fun e=>hg2 e.symm
     have ng3:g≠w.heap.size:=by omega
     have ng4:w.heap.size≠g:=by omega
     have ng5:g≠w.heap.size+1:=by omega
     have ng6:w.heap.size+1≠g:=by omega
     have HG5:=hQ hg5;clear hg1 hg2 hg5;obtain⟨x0,x1,x2,x3,xl,xf⟩:=Qah HE.out.res;have k0:wr.cell? ⟨w.heap.size,0,none⟩=some (.int .i64 vk):=Qab HE.out.box 0 _ rfl;have kl:w.heap.size<wr.heap.size:=Qaa HE.out.box;have y0:wr.cell? ⟨U,0,none⟩=some (.int .i64 vk):=Qab HE.out.ld.blk 0 _ rfl;have y1:wr.cell? ⟨U,1,none⟩=some (.string t.text):=Qab HE.out.ld.blk 1 _ rfl;have y2:wr.cell? ⟨U,2,none⟩=some (.slice (some ⟨g,0,none⟩) q lc):=Qab HE.out.ld.blk 2 _ rfl;have y3:wr.cell? ⟨U,3,none⟩=some (.slice none 0 0):=Qab HE.out.ld.blk 3 _ rfl;have yl:U<wr.heap.size:=Qaa HE.out.ld.blk;have yf:∀ o,wr.frozen? ⟨U,o,none⟩=false:=fun o=>xL HE.out.ld.blk _
     have nu1:U≠w.heap.size:=by have:=HE.out.ld.ru;omega
     have nu2:U≠w.heap.size+1:=by have:=HE.out.ld.ru;omega
     have nu3:w.heap.size≠U:=by omega
     have nu4:w.heap.size+1≠U:=by omega
     obtain⟨p0,hp0⟩:=HG5.out 0 HQ0.out;have hi0:(0:Int)<(q:Int):=by have:=HQ0.out;omega
     go_wp2;refine bodyPost_ret (v:=.agg #[.int .i64 vk,.string t.text,.slice (some ⟨g,0,none⟩) q lc,.slice (some ⟨w3.heap.size,0,none⟩) t.kids.length t.kids.length]) (by simp[results,results102,go_sem, *]) rfl ?_;exact ArE.made (HE.out.put HQ0.out HSS.out) HX7.out HQM.out HKS.out.symm HSS2.out HTN.out HE3.out
end Go.Proofs.YtfjpemdejoejbaaGreat
