/- Part 43 -/
import Derived.Test.YtfjpemdejoejbaaGreatTp42
set_option maxRecDepth 100000
set_option maxHeartbeats 4000000
namespace Go.Proofs.YtfjpemdejoejbaaGreat
open Go.Proofs.Tryz Go.RowKit Go.Shelf
theorem Zev(k:Int)(x:yD)(a b:yE)(l m c d:Nat)(w:World):(Instr.field 25 (.agg #[.int .i64 k,.string x,.slice a l c,.slice b m d]) 0).run prog w = .ok (.int .i64 k) w:=by kernel_rfl
theorem Zew(k:Int)(x:yD)(a b:yE)(l m c d:Nat)(w:World):(Instr.field 25 (.agg #[.int .i64 k,.string x,.slice a l c,.slice b m d]) 1).run prog w = .ok (.string x) w:=by kernel_rfl
def plT(R:Int × Nat × Int):Tr:=if R.1=0 then Qcz R.2.1 (Qem R.2.2) else noTr
theorem Zk7{c:Tr}(h:Qa2 c=true)(hk:5<=c.kind/\c.kind<=9)(h0:c.kids = []):LsT (Qj7 c):=by
 refine⟨?_,hk⟩;rw[Qd8]at h |-;rw[h0]at h;exact h
def PlW(ps:List Tr)(R:Int × Nat × Int)(M f n:Nat)(met:List Pr)(c:Tr):Prop :=
 LsT (Qj7 c)/\c.kind≠8/\((c.kind=9/\Zkp ps (Qbb ps M c.text)/\goL ps f (Qbb ps M c.text) met n=some R/\c.text.size<=maxLen)\/(c.kind≠9/\R=(0,n,c.kind)/\Zmz c.kind/\c.text=⟨#[]⟩))
def PlL(ps:List Tr)(R:Int × Nat × Int)(w:World)(ob:Nat)(v1 v9:Value)(wr:World):Prop :=
 ∃ (f n M mc:Nat) (MA:yE) (met:List Pr) (c:Tr) (u:TV),v1 = .int .i64 (M:Int)/\v9 = .slice MA met.length mc/\M<ps.length/\wr.heap[ob]? = some (trO u)/\wr.heap[w.heap.size+1]? = some (trO ⟨0,⟨#[]⟩,none,0,0,none,0,0⟩) /\
  TrAt (fun b=>w.heap.size+2<=b/\b<wr.heap.size/\b≠ob/\(Value.slice MA met.length mc).ownBlock≠some b) wr (Qcz n (Qj7 c)) u/\MRow wr (w.heap.size+2) (.slice MA met.length mc) met/\(Value.slice MA met.length mc).ownBlock≠some ob /\
  PlW ps R M f n met c/\f+met.length=Qal ps+1/\n<=1000*(met.length+1)/\Below w.heap.size w wr
theorem Zex{ps:List Tr}(hz:∀ t∈ps,Qai t<=1000)(hg:Qc1 ps=true){M f n:Nat}{met:List Pr}{R:Int × Nat × Int}{t:Tr}(hls:LsT t)(htw:Qbg t=true)(_htz:Qai t<=1000)
  (h1:(Qbd t).kind=9->goL ps f (Qbb ps M (Qbd t).text) met n=some R) (h2:(Qbd t).kind≠9->R=(0,n,(Qbd t).kind)):PlW ps R M f n met (Qbd t):=by
 have hc:=Qhu _ t (xA _) hls.1 hls.2;refine⟨Zk7 hc.2.2.2 (by have:=hc.1;omega) hc.2.1,by have:=hc.1;omega,?_⟩
 by_cases h9:(Qbd t).kind=9
 ·exact .inl ⟨h9,Qje hz hg hc.2.2.2 h9 (by rw[Qa5,hc.2.1,Qal];omega),h1 h9,Nat.le_of_lt (Qa7 (Qjf (fun t=>Qbg t=true) Qhy _ t (xA _) hls.1 hls.2 htw)).1⟩
 ·exact .inr ⟨h9,h2 h9,Zd4 hls.1 hls.2 h9,hc.2.2.1 h9⟩
theorem Zh6{ps:List Tr}(hz:∀ t∈ps,Qai t<=1000)(hg:Qc1 ps=true){M:Nat}{t:Tr}(hls:LsT t)(htw:Qbg t=true)(htz:Qai t<=1000):PlW ps (Qtg ps M t) M (Qal ps+1) (Qbn t) [] (Qbd t) :=
 Zex hz hg hls htw htz (fun h9=>Qun h9) (fun h9=>by unfold Qtg;rw[xN h9])
theorem Qod{w w4:World}{R:Int × Nat × Int}{E:Int}(hR:R=(E,0,0))(hE:E≠0)(hb:Below w.heap.size w w4) :
  ∃ u:TV,Ending.returned (.tuple #[.agg #[.int .i64 0,.string ⟨#[]⟩,.slice none 0 0,.slice none 0 0],.int .i64 E]) = .returned (.tuple #[.agg #[.int .i64 u.kind,.string u.text,.slice u.la u.ll u.lc,.slice u.ka u.kl u.kc],.int .i64 R.1]) /\
   TrAt (fun b=>w.heap.size<=b/\b<(Qek w4 (w.heap.size+1) ⟨0,⟨#[]⟩,none,0,0,none,0,0⟩).heap.size) (Qek w4 (w.heap.size+1) ⟨0,⟨#[]⟩,none,0,0,none,0,0⟩) (plT R) u/\Below w.heap.size w (Qek w4 (w.heap.size+1) ⟨0,⟨#[]⟩,none,0,0,none,0,0⟩):=by
 subst hR;refine⟨⟨0,⟨#[]⟩,none,0,0,none,0,0⟩,rfl,?_,hb.trans ((Qb6 w4 (w.heap.size+1) ⟨0,⟨#[]⟩,none,0,0,none,0,0⟩).mono (Nat.le_succ _))⟩;unfold plT;rw[xN hE];exact Qnc _ _
theorem Zey{w w':World}{B:Nat}{e:TypeId}{size n b:Nat}{v:Value}{xs:List Value}(h:w.ownsRow B e size v n xs)(hne:v.ownBlock≠some b)(hk:∀ k,k≠b->w'.heap[k]? = w.heap[k]?):w'.ownsRow B e size v n xs:=by
 refine⟨h.1,?_⟩
 rcases h.2 with h0|⟨g,cap,cur,rfl,hb,hh,hnc,hm,hsz,htk⟩
 ·exact .inl h0
 ·exact .inr ⟨g,cap,cur,rfl,hb,(hk g (fun e=>hne (by rw[e];rfl))).trans hh,hnc,hm,hsz,htk⟩
theorem Zk8{ps:List Tr}{R:Int × Nat × Int}{w w6 w8 WS:World}{ob n M2 D2 c6 g6 f':Nat}{met:List Pr}{c ta:Tr}{q:TV}(hS:WS.heap.size=w8.heap.size)(hK:∀ b,b≠ob->WS.heap[b]? = w8.heap[b]?)(hO:WS.heap[ob]? = some (trO q))(hbS:Below w.heap.size w WS)(hm2:M2<ps.length)
  (hr:w6.heap[w.heap.size+1]? = some (trO ⟨0,⟨#[]⟩,none,0,0,none,0,0⟩)) (hne:w.heap.size+1≠ob) (hob:ob<w6.heap.size) (hb8:Below w6.heap.size w6 w8) (hc8:(Qj7 c).kind≠8) (hls:LsT ta)
  {S8:Nat->Prop} (hS8:∀ b,S8 b->w6.heap.size<=b/\b<w8.heap.size) (hq:TrAt S8 w8 (Qcz (Qbn (Qcz n (Qj7 c))) (Qin ta)) q) (hlo:w.heap.size+2<=w6.heap.size) (hgo:g6≠ob)
  (hrow:w6.ownsRow (w.heap.size+2) 67 2 (.slice (some ⟨g6,0,none⟩) (met.length+1) c6) (met.length+1) (Qeu met ++ [.int .i64 (M2:Int),.int .i64 (D2:Int)]))
  (hpw:PlW ps R M2 f' (n+Qbn ta) (met ++ [((M2:Int),(D2:Int))]) (Qbd ta)) (hf:f'+(met.length+1)=Qal ps+1) (hn:n+Qbn ta<=1000*(met.length+1+1)) :
  PlL ps R w ob (.int .i64 (M2:Int)) (.slice (some ⟨g6,0,none⟩) (met.length+1) c6) WS:=by
 have hg6:=(World.ownsRow.lt hrow g6 rfl).2;have h8:=hb8.size;have hle:(met ++ [((M2:Int),(D2:Int))]).length=met.length+1:=by rw[xB];rfl
 have hb6:∀ b,b<w6.heap.size->b≠ob->WS.heap[b]? = w6.heap[b]?:=fun b hl hn=>(hK b hn).trans (hb8.block b hl)
 refine⟨f',n+Qbn ta,M2,c6,some ⟨g6,0,none⟩,met ++ [((M2:Int),(D2:Int))],Qbd ta,q,rfl,by rw[hle],hm2,hO,(hb6 _ (Qaa hr) hne).trans hr,?_,?_,?_,hpw,by rw[hle];exact hf,by rw[hle];exact hn,hbS⟩
 ·rw[(Qlb hc8 n).2,Qtc _ ta (xA _) hls,Zh5]at hq
  refine TrAt.move (fun b hb=>?_) (fun b hb _=>hK b ?_) _ _ hq
  ·have h1:=hS8 b hb;refine⟨by omega,by omega,by omega,fun e=>?_⟩;have e2:g6=b:=by simpa [Value.ownBlock] using e
   omega
  ·have h1:=hS8 b hb;omega
 ·unfold MRow;rw[hle,Qfz];exact Zey (b:=ob) (Qf8 hrow hb8) (fun e=>hgo (by simpa [Value.ownBlock] using e)) hK
 ·exact fun e=>hgo (by simpa [Value.ownBlock] using e)
theorem Zmv{w6 w':World}{ob pb po kb ko ab ao:Nat}{u av:TV}{x y:Value}(hb:Below w6.heap.size w6 w')(ho:w6.heap[ob]? = some (trO u))(hp:w6.cell? ⟨pb,po,none⟩=some x)(hq:w6.cell? ⟨kb,ko,none⟩=some y)
  (ha:w6.cell? ⟨ab,ao,none⟩=some (.int .i64 av.kind)/\w6.cell? ⟨ab,ao+1,none⟩=some (.string av.text)/\w6.cell? ⟨ab,ao+2,none⟩=some (.slice av.la av.ll av.lc)/\w6.cell? ⟨ab,ao+3,none⟩=some (.slice av.ka av.kl av.kc)) :
  w'.cell? ⟨ob,0,none⟩=some (.int .i64 u.kind)/\w'.cell? ⟨ob,1,none⟩=some (.string u.text)/\w'.cell? ⟨ob,2,none⟩=some (.slice u.la u.ll u.lc)/\w'.cell? ⟨ob,3,none⟩=some (.slice u.ka u.kl u.kc) /\
  w'.cell? ⟨pb,po,none⟩=some x/\w'.cell? ⟨kb,ko,none⟩=some y /\
  w'.cell? ⟨ab,ao,none⟩=some (.int .i64 av.kind)/\w'.cell? ⟨ab,ao+1,none⟩=some (.string av.text)/\w'.cell? ⟨ab,ao+2,none⟩=some (.slice av.la av.ll av.lc)/\w'.cell? ⟨ab,ao+3,none⟩=some (.slice av.ka av.kl av.kc) /\
  ob<w'.heap.size/\pb<w'.heap.size/\kb<w'.heap.size/\ab<w'.heap.size/\∀ o,w'.frozen? ⟨ob,o,none⟩=false:=by
 have ho2:=(hb.block _ (Qaa ho)).trans ho;have g1:=xK w6 _ hp;have g2:=xK w6 _ hq;have g3:=xK w6 _ ha.1
 exact⟨Qab ho2 0 _ rfl,Qab ho2 1 _ rfl,Qab ho2 2 _ rfl,Qab ho2 3 _ rfl,Qaw hb g1 hp,Qaw hb g2 hq,Qaw hb g3 ha.1,Qaw hb g3 ha.2.1,Qaw hb g3 ha.2.2.1,Qaw hb g3 ha.2.2.2,
  Qaa ho2,xE g1 hb.size,xE g2 hb.size,xE g3 hb.size,fun _=>xL ho2 _⟩
theorem Zez(S S':Nat->Prop)(A:yE)(c0:Nat)(ps:List Tr)(M:Nat)(t:Tr)(v:TV)(w:World)(hp:TrAt S w (Qa9 ps) ⟨0,⟨#[]⟩,none,0,0,A,ps.length,c0⟩)(hf:Qgm (Qa9 ps)=true)(hw:Qbg (Qa9 ps)=true)(hg:Qc1 ps=true)
  (hz:∀ t∈ps,Qai t<=1000) (hl:Qal ps<=90000) (hM:M<ps.length) (ht:TrAt S' w t v) (htf:Qgm t=true) (htw:Qbg t=true) (htz:Qai t<=1000) (hls:LsT t) :
  Calls prog 32 #[.slice A ps.length c0,.int .i64 (M:Int),.agg #[.int .i64 v.kind,.string v.text,.slice v.la v.ll v.lc,.slice v.ka v.kl v.kc]] w fun e w'=>∃ u:TV,e = .returned (.tuple #[.agg #[.int .i64 u.kind,.string u.text,.slice u.la u.ll u.lc,.slice u.ka u.kl u.kc],.int .i64 (Qtg ps M t).1])/\TrAt (fun b=>w.heap.size<=b/\b<w'.heap.size) w' (plT (Qtg ps M t)) u/\Below w.heap.size w w':=by
 have HPL:=hQ (TrAt.low _ _ hp);have HF:=hQ hf;have HW:=hQ hw;have HG:=hQ hg;have HZ:=hQ hz;have HL:=hQ hl;have HTW:=hQ htw;have HTZ:=hQ htz;have HLS:=hQ hls;have HB0:=hQ (Qe0 w (trO v) (trO ⟨0,⟨#[]⟩,none,0,0,none,0,0⟩));have K0:=hQ (Qdv w (trO v) (trO ⟨0,⟨#[]⟩,none,0,0,none,0,0⟩));have HBR:=hQ (Qtb _ S' t v _ (xA _) (ht.keep HB0.out) htf);obtain⟨ia,hia,az0,az1,az2⟩:=info_parts Zet;obtain⟨pb,po,hA⟩:∃ b off,A=some ⟨b,off,none⟩:=HPL.out.addr.resolve_left (by show ¬ ps.length=0;omega);subst hA;have fk:=Zev;have fx:=Zew;have HLZ:=hQ (show Qbn t<=1000 from xQ (Qfb t) HTZ.out);have HST:=hQ (Zh6 (M:=M) HZ.out HG.out HLS.out HTW.out HTZ.out);obtain⟨R,hR⟩:∃ R,R=Qtg ps M t:=⟨_,rfl⟩;rw[<-hR]at HST |-;clear hp hf hw hg hz hl ht htf htw htz hls hR;obtain⟨vk,vx,vla,vll,vlc,vka,vkl,vkc⟩:=v;go_enter func32,ntmps32;go_wp2_with fail;go_at_call 60;refine HBR.out.mono ?_;rintro e w1⟨u1,rfl,hu1,hb1⟩;obtain⟨uk,ux,ula,ull,ulc,uka,ukl,ukc⟩:=u1
 have HU1:=hQ (show TrAt (fun b=>w.heap.size+2<=b/\b<w1.heap.size) w1 (Qcz (Qbn t) (Qj7 (Qbd t))) ⟨uk,ux,ula,ull,ulc,uka,ukl,ukc⟩ from by
  rw[<-Qtc _ t (xA _) HLS.out];exact TrAt.move (fun b hb=>⟨by have h1:=hb.1;rw[xI,xI]at h1;exact h1,hb.2⟩) (fun _ _ _=>rfl) _ _ hu1)
 have HB1:=hQ (HB0.out.trans (hb1.mono HB0.out.size));have HR1:=hQ ((hb1.block _ (by rw[xI,xI];omega)).trans K0.out.2);have HBA:=hQ (Qcs w1 (trO ⟨uk,ux,ula,ull,ulc,uka,ukl,ukc⟩));have HXO:=hQ (xH w1 (trO ⟨uk,ux,ula,ull,ulc,uka,ukl,ukc⟩));clear hu1 hb1;go_wp2_with fail
 go_loopw [1,9] (fun v1 v9 wr=>PlL ps R w w1.heap.size v1 v9 wr) (fun _ v9 _=>Qal ps+1-Zmy v9)
 case atStart =>
  exact⟨Qal ps+1,Qbn t,M,0,none,[],Qbd t,⟨uk,ux,ula,ull,ulc,uka,ukl,ukc⟩,rfl,rfl,hM,HXO.out,(HBA.out.block _ (Qaa HR1.out)).trans HR1.out,TrAt.move (fun b hb=>⟨hb.1,by rw[xI];omega,by omega,fun e=>by cases e⟩) (fun b _ hl=>HBA.out.block b hl) _ _ HU1.out,MRow.nil _ _,(fun e=>by cases e),HST.out,rfl,by have:=HLZ.out;simp only[xG];omega,HB1.out.alloc HB1.out.size _⟩
 case round =>
  obtain⟨f,n,M,mc,MA,met,c,u,rfl,rfl,hM,ho,hr,hu,hm,hob,⟨hls,h8,hpw⟩,hfm,hn,hb⟩:=hrel;have HO:=hQ ho;have HRX:=hQ hr;have HU:=hQ hu;have HMR:=hQ hm;have HOB:=hQ hob;have HFM:=hQ hfm;have HN:=hQ hn;have HB:=hQ hb;obtain⟨uk,ux,ula,ull,ulc,uka,ukl,ukc⟩:=u;have k0:wr.cell? ⟨w1.heap.size,0,none⟩=some (.int .i64 uk):=Qab ho 0 _ rfl;have k1:wr.cell? ⟨w1.heap.size,1,none⟩=some (.string ux):=Qab ho 1 _ rfl;have k2:wr.cell? ⟨w1.heap.size,2,none⟩=some (.slice ula ull ulc):=Qab ho 2 _ rfl;have k3:wr.cell? ⟨w1.heap.size,3,none⟩=some (.slice uka ukl ukc):=Qab ho 3 _ rfl;have kl:=Qaa ho;have HLF:=hQ (Qq3 _ (Qcz n (Qj7 c)) ⟨uk,ux,ula,ull,ulc,uka,ukl,ukc⟩ wr hu (Qmw hls n));rw[(Qlb (show(Qj7 c).kind≠8 from h8) n).1]at HLF;have HLSC:=hQ hls;clear ho hr hu hm hob hfm hn hb hls;go_wp2_with fail;go_at_call 38;refine HLF.out.mono ?_;rintro e w2⟨y,rfl,hy,hb2⟩;have y0:y.kind=c.kind:=hy.kl.2.2.1;have y1:y.text=c.text:=hy.kl.2.2.2;rw[y0,y1];have HB2:=hQ hb2;have HO2:=hQ ((hb2.block _ kl).trans HO.out);have HR2:=hQ ((hb2.block _ (Qaa HRX.out)).trans HRX.out);clear hy hb2 y0 y1 k0 k1 k2 k3 kl;have k0:w2.cell? ⟨w1.heap.size,0,none⟩=some (.int .i64 uk):=Qab HO2.out 0 _ rfl;have k1:w2.cell? ⟨w1.heap.size,1,none⟩=some (.string ux):=Qab HO2.out 1 _ rfl;have k2:w2.cell? ⟨w1.heap.size,2,none⟩=some (.slice ula ull ulc):=Qab HO2.out 2 _ rfl;have k3:w2.cell? ⟨w1.heap.size,3,none⟩=some (.slice uka ukl ukc):=Qab HO2.out 3 _ rfl;have kl:=Qaa HO2.out
  rcases hpw with⟨h9,hro,hgo,hx⟩|⟨h9,hR,hbase,hx⟩
  ·rw[h9];have HGO:=hQ hgo;have HRO:=hQ hro;have HX:=hQ hx;clear hgo hro hx h9;have hls2:=HLSC.out;have HLF2:=hQ (Qq3 _ (Qcz n (Qj7 c)) ⟨uk,ux,ula,ull,ulc,uka,ukl,ukc⟩ w2 (HU.out.keep HB2.out) (Qmw hls2 n));rw[(Qlb (show(Qj7 c).kind≠8 from h8) n).1]at HLF2;clear hls2 HLF;go_wp2_with fail;go_at_call 38;refine HLF2.out.mono ?_;rintro e w3⟨y2,rfl,hy,hb3⟩;have y1:y2.text=c.text:=hy.kl.2.2.2;rw[y1];have HB3:=hQ (HB2.out.trans (hb3.mono HB2.out.size));clear hy hb3 y1;go_wp2_with fail;go_at_call 39;refine(Qwa _ _ c0 ps M c.text w3 (HPL.out.keep (HB.out.trans (HB3.out.mono HB.out.size))) HF.out HX.out hM).mono ?_;rintro e w4⟨rfl,hb4⟩;have HB4:=hQ (HB3.out.trans (hb4.mono HB3.out.size));have HO4:=hQ ((HB4.out.block _ (Qaa HO.out)).trans HO.out);have HR4:=hQ ((HB4.out.block _ (Qaa HRX.out)).trans HRX.out);clear hb4 k0 k1 k2 k3 kl
   rcases HRO.out with⟨_,hr⟩|⟨M2,D2,t2,k2,hr,ht2,hk2,hk3⟩
   ·rw[hr]at HGO |-;have HV:=hQ (Zig HGO.out rfl);obtain⟨r0,r1,r2,r3,rl,rf⟩:=Qah HR4.out;clear hr;go_wp2_with fail;refine bodyPost_ret (v:=.tuple #[.agg #[.int .i64 0,.string ⟨#[]⟩,.slice none 0 0,.slice none 0 0],.int .i64 7]) (by simp[results,results32,go_sem, *]) rfl ?_;exact Qod HV.out (by decide) (HB.out.trans (HB4.out.mono HB.out.size))
   ·rw[hr]at HGO |-;have hmz:met.length<=1000000:=by have:=HFM.out;have:=HL.out;omega
    by_cases hmem:((M2:Int),(D2:Int))∈met
    ·have HV:=hQ (Zdi HGO.out rfl hmem);have HCN:=hQ (Qq4 (w.heap.size+2) mc MA met M2 D2 w4 (HMR.out.keep HB4.out) hmz);rw[xS hmem]at HCN;clear hr hmem ht2 hk2 hk3 hmz;go_wp2_with fail;go_at_call 40;refine HCN.out.mono ?_;rintro e w5⟨rfl,hb5⟩;have HB5:=hQ (HB4.out.trans (hb5.mono HB4.out.size));obtain⟨r0,r1,r2,r3,rl,rf⟩:=Qah ((hb5.block _ (Qaa HR4.out)).trans HR4.out);clear hb5;go_wp2_with fail;refine bodyPost_ret (v:=.tuple #[.agg #[.int .i64 0,.string ⟨#[]⟩,.slice none 0 0,.slice none 0 0],.int .i64 19]) (by simp[results,results32,go_sem, *]) rfl ?_;exact Qod HV.out (by decide) (HB.out.trans (HB5.out.mono HB.out.size))
    ·have HCN:=hQ (Qq4 (w.heap.size+2) mc MA met M2 D2 w4 (HMR.out.keep HB4.out) hmz);rw[xR hmem]at HCN;have HMEM:=hQ hmem;have HT2:=hQ ht2;have HK2:=hQ hk2;have HK3:=hQ hk3;have HMZ:=hQ hmz;clear hr hmem ht2 hk2 hk3 hmz;go_wp2_with fail;go_at_call 40;refine HCN.out.mono ?_;rintro e w5⟨rfl,hb5⟩;have HB5:=hQ (HB4.out.trans (hb5.mono HB4.out.size));have HBA5:=hQ (Qcs w5 (arO ((M2:Int),(D2:Int))));have HRW:=hQ (MRow.keep (MRow.keep HMR.out HB5.out) HBA5.out);have HNW:=hQ (xM (xH w5 (arO ((M2:Int),(D2:Int)))));have HM1:=hQ (show met.length+1<=maxLen from by have:=HMZ.out;unfold maxLen;omega);have HM2:=hQ (show(met.length+1)*16<=140737488355328 from by have:=HMZ.out;omega);have HSZ:=hQ (show w.heap.size+2<=(w5.alloc (arO ((M2:Int),(D2:Int)))).heap.size from by have h1:=HB5.out.size;have h2:=Qaa HRX.out;rw[xI];omega);have HON:=hQ (show ∀ u∈[Value.int .i64 (M2:Int),.int .i64 (D2:Int)],u.oneCell'=true from by intro u hu;simp at hu;rcases hu with rfl | rfl <;> rfl);clear hb5;go_wp2_with (at_builtin;refine Qep _ rfl _ _ 68 rfl (w.heap.size+2) 67 ia _ 2 16 underlying68 hia az0 az1 az2 rfl (by decide) _ met.length (Qeu met) rfl HRW.out ⟨w5.heap.size,0,none⟩ 1 1 [.int .i64 (M2:Int),.int .i64 (D2:Int)] rfl rfl HNW.out HON.out (by decide) HM1.out HM2.out HSZ.out ?_;intro g6 c6 w6 hown6 hk6 hg6 hlt6;have HO6:=hQ hown6;have HK6:=hQ hk6;have HG6:=hQ hg6;have HLT6:=hQ hlt6;clear hown6 hk6 hg6 hlt6)
     have HBW:=hQ (HB5.out.trans (HBA5.out.mono HB5.out.size));have HOW:=hQ (show ∀ b,(Value.slice MA met.length mc).ownBlock=some b->w.heap.size+2<=b from fun b e=>(World.ownsRow.lt HRW.out b e).1);have HO6X:=hQ ((HK6.out.block _ (xE (Qaa HO.out) HBW.out.size) (Qch HOB.out)).trans ((HBW.out.block _ (Qaa HO.out)).trans HO.out));have HR6X:=hQ ((HK6.out.block _ (xE (Qaa HRX.out) HBW.out.size) (Qch fun e=>by have:=HOW.out _ e;omega)).trans ((HBW.out.block _ (Qaa HRX.out)).trans HRX.out));have HB6:=hQ (show Below w.heap.size w w6 from HB.out.trans ((HBW.out.mono HB.out.size).trans (HK6.out.below (xQ HB.out.size HBW.out.size) fun b hl=>Qch fun e=>by have:=HOW.out b e;omega)));have HU6:=hQ (TrAt.move (S':=fun b=>w.heap.size+2<=b/\b<wr.heap.size/\b≠w1.heap.size/\(Value.slice MA met.length mc).ownBlock≠some b) (fun _ h=>h) (fun b hb hl=>(HK6.out.block b (xE hl HBW.out.size) (Qch hb.2.2.2)).trans (HBW.out.block b hl)) _ _ HU.out);obtain⟨ta,hka,hty2,hlf,hta1,hta2,hta3⟩:=Quv HZ.out HG.out HT2.out HK2.out HK3.out;obtain⟨tv,_,_,_,p3,htv⟩:=(HPL.out.keep HB6.out).at rfl (show(Qa9 ps).kids[M2]? = some t2 from HT2.out);have hd2:=(xP.1 HK2.out).1;have hm2:=(xP.1 HT2.out).1;obtain⟨kb,ko,hkb⟩:∃ b off,tv.ka=some ⟨b,off,none⟩:=htv.addr.resolve_left (by omega);obtain⟨kv,_,_,_,q3,hkv⟩:=htv.at hkb HK2.out;have haj:k2.kids[0]? = some ta:=by rw[hka];rfl
     obtain⟨ab,ao,hab⟩:∃ b off,kv.ka=some ⟨b,off,none⟩:=hkv.addr.resolve_left (by rw[hka];simp);obtain⟨av,a0,a1,a2,a3,hav⟩:=hkv.at hab haj;simp only[Nat.zero_mul,Nat.add_zero]at a0 a1 a2 a3;rw[hkb,htv.kl.1]at p3;have hk1:kv.kl=1:=by rw[hkv.kl.1,hka];rfl
     rw[hab,hk1]at q3;have HAV:=hQ hav;have HFA:=hQ ((Qb2 ((Qb2 ((Qb2 HF.out).2.2 M2 t2 HT2.out)).2.2 D2 k2 HK2.out)).2.2 0 ta haj);have HWA:=hQ ((Qa7 ((Qa7 ((Qa7 HW.out).2.2 M2 t2 HT2.out)).2.2 D2 k2 HK2.out)).2.2 0 ta haj);have HLA:=hQ (show LsT ta from⟨hta1,hta2⟩);have HTY:=hQ hty2;have HLEA:=hQ hlf;have HTA3:=hQ hta3;have P3:=hQ p3;have Q3:=hQ q3;have AX:=hQ (show w6.cell? ⟨ab,ao,none⟩=some (.int .i64 av.kind)/\w6.cell? ⟨ab,ao+1,none⟩=some (.string av.text)/\w6.cell? ⟨ab,ao+2,none⟩=some (.slice av.la av.ll av.lc)/\w6.cell? ⟨ab,ao+3,none⟩=some (.slice av.ka av.kl av.kc) from⟨a0,a1,a2,a3⟩)
     have HFP:=hQ (show 0<f from by
      rcases Nat.eq_zero_or_pos f with h | h
      ·have hg:=HGO.out;rw[h,goL]at hg;cases hg
      ·exact h)
     have HPW:=hQ (Zex (n:=n+Qbn ta) (met:=met ++ [((M2:Int),(D2:Int))]) (f:=f-1) (M:=M2) (R:=R) HZ.out HG.out HLA.out HWA.out HTA3.out (fun h9=>by
      obtain⟨f',hf,h⟩:=Qwl HGO.out HMEM.out (by rw[HLEA.out];exact h9);rw[HTY.out,HLEA.out]at h;rw[show f-1=f' from by omega];exact h) (fun h9=>by
      have h:=Qwk HGO.out HMEM.out (by rw[HLEA.out];exact h9);rw[HTY.out,HLEA.out]at h;exact h))
     have m0:(0:Int)<=(M2:Int):=by omega
     have m1:(M2:Int)<(ps.length:Int):=by omega
     have n0:(0:Int)<=(D2:Int):=by omega
     have n1:(D2:Int)<(t2.kids.length:Int):=by omega
     clear hka hty2 hlf hta1 hta2 hta3 htv hkb hkv haj hab hav hk1 p3 q3 a0 a1 a2 a3 hd2 hm2;have HBARE:=hQ (fun(w':World) (hb:Below w6.heap.size w6 w')=>Qtb _ _ ta av w' (xA _) (HAV.out.keep hb) HFA.out);have HLAY:=hQ (fun(w':World) (hb:Below w6.heap.size w6 w')=>Zmv hb HO6X.out P3.out Q3.out AX.out);obtain⟨o0,o1,o2,o3,p3,q3,a0,a1,a2,a3,ol,pl,kl,al,of⟩:=HLAY.out w6 (xC _ _);have mixedL:prog.follows Departure.mixedOrders=true:=mixed
     go_region_law (first
      | (go_simp;go_at_call 60;refine(HBARE.out _ (xC _ _).drew).mono ?_;rintro e w7⟨ub,rfl,hub,hb7⟩;have HB7:=hQ ((show Below w6.heap.size w6 _ from(xC _ _).drew).trans hb7);have HUB:=hQ (show TrAt (fun b=>w6.heap.size<=b/\b<w7.heap.size) w7 (Qin ta) ub from hub);clear hub hb7 o0 o1 o2 o3 p3 q3 a0 a1 a2 a3 ol pl kl al of;obtain⟨o0,o1,o2,o3,p3,q3,a0,a1,a2,a3,ol,pl,kl,al,of⟩:=HLAY.out w7 HB7.out)
      | (go_simp;go_at_call 61;refine(Zms _ _ _ (Qcz n (Qj7 c)) (Qin ta) ⟨uk,ux,ula,ull,ulc,uka,ukl,ukc⟩ ub w7 (xA _) (HU6.out.keep HB7.out) (Qmw HLSC.out n) HUB.out (fun b hb=>hb.2)).mono ?_;rintro e w8⟨q,rfl,hq,hb8⟩;have HQ:=hQ hq;have HB78:=hQ hb8.size;have HB8:=hQ (HB7.out.trans (hb8.mono HB7.out.size));clear hq hb8 o0 o1 o2 o3 p3 q3 a0 a1 a2 a3 ol pl kl al of;obtain⟨o0,o1,o2,o3,p3,q3,a0,a1,a2,a3,ol,pl,kl,al,of⟩:=HLAY.out w8 HB8.out))
     all_goals
      go_wp2_with fail;go_roundw
      case measure =>
       show Qal ps+1-(met.length+1)<Qal ps+1-met.length
       have h1:=HFM.out;have h2:=HFP.out;omega
      case rel =>
       have hg6:(Value.slice MA met.length mc).ownBlock=some g6\/(w5.alloc (arO ((M2:Int),(D2:Int)))).heap.size<=g6:=HG6.out;have h16:=Qaa HO6X.out;have h1r:=Qaa HR1.out
       have e:=Zk8 (w6:=w6) (w8:=w8) (q:=q) (WS:=Qek w8 w1.heap.size q) (Qb7 _ _ _) (fun b hb=>Qa3 _ hb) (Qf2 (w:=w8) q ((HB8.out.block _ h16).trans HO6X.out)) ((HB6.out.trans (HB8.out.mono HB6.out.size)).trans ((Qb6 w8 w1.heap.size q).mono HB1.out.size)) (by omega) HR6X.out (by omega) h16 HB8.out (show(Qj7 c).kind≠8 from h8) HLA.out (fun b hb=>by
        have h7:=HB7.out.size;have h8':=HB8.out.size;have h78:=HB78.out
        rcases hb with h | h
        ·exact⟨h.1,by omega⟩
        ·exact⟨by omega,h.2⟩) HQ.out (by omega) (by
        rcases hg6 with h | h
        ·intro e;exact HOB.out (h.trans (by rw[e]))
        ·have h5:=HB5.out.size;have h0:=Qaa HO.out;rw[xI]at h;omega) HO6.out HPW.out (by have h1:=HFM.out;have h2:=HFP.out;omega) (by have h1:=HN.out;have h2:=Qfb ta;have h3:=HTA3.out;omega)
       exact e
  ·have b9:=Qcr h9;obtain⟨r0,r1,r2,r3,rl,rf⟩:=Qah HR2.out;have HE:=hQ (show plT R=Qcz n (Qj7 c) from by rw[hR];unfold plT Qj7 Qem;rw[hx];exact xO rfl);have HE0:=hQ (show R.1=0 from by rw[hR]);clear hR hbase hx h9;go_wp2_with fail;refine bodyPost_ret (v:=.tuple #[.agg #[.int .i64 uk,.string ux,.slice ula ull ulc,.slice uka ukl ukc],.int .i64 0]) (by simp[results,results32,go_sem, *]) rfl ?_;have hbb:=HB.out.trans (HB2.out.mono HB.out.size);have hbt:=hbb.trans ((Qb6 w2 (w.heap.size+1) ⟨uk,ux,ula,ull,ulc,uka,ukl,ukc⟩).mono (Nat.le_succ _));have hsz:=Qb7 w2 (w.heap.size+1) ⟨uk,ux,ula,ull,ulc,uka,ukl,ukc⟩;refine⟨⟨uk,ux,ula,ull,ulc,uka,ukl,ukc⟩,by rw[HE0.out],?_,hbt⟩;rw[HE.out];have hu2:=HU.out.keep HB2.out;refine TrAt.move (w':=Qek w2 (w.heap.size+1) ⟨uk,ux,ula,ull,ulc,uka,ukl,ukc⟩) (fun b hb=>⟨by omega,?_⟩) (fun b hb _=>Qa3 _ (by omega)) _ _ hu2;have h1:=HB2.out.size;show b<(Qek w2 (w.heap.size+1) ⟨uk,ux,ula,ull,ulc,uka,ukl,ukc⟩).heap.size
   rw[hsz];omega
theorem Zmw(ps:List Tr)(m:Int)(t:Tr):exT ps m t=plT (Qdu ps m t):=rfl
theorem Qld{ps:List Tr}{m:Int}{t:Tr}(htz:Qai t<=1000)(h:Qc1 ps=false\/m<0\/(ps.length:Int)<=m\/Qfd 3 t.kind=false\/Qa2 t=false):Qdu ps m t=(5,0,0):=by
 unfold Qdu;rw[xO]
 rcases h with h | h | h | h | h
 ·exact .inl h
 ·exact .inr (.inl h)
 ·exact .inr (.inr (.inl h))
 ·refine .inr (.inr (.inr (.inl fun hk=>?_)));have e:Qfd 3 t.kind=(decide (5<=t.kind) && decide (t.kind<=9)):=rfl;rw[e,xS hk.1,xS hk.2]at h;cases h
 ·exact .inr (.inr (.inr (.inr ((Qce _ t (xA _) htz).symm.trans h))))
theorem Ze5{ps:List Tr}{M:Nat}{t:Tr}(htz:Qai t<=1000)(hg:Qc1 ps=true)(hM:M<ps.length)(hk:Qfd 3 t.kind=true)(hs:Qa2 t=true):Qdu ps (M:Int) t=Qtg ps M t:=by
 unfold Qdu
 rw[xN]
 ·rfl
 ·rintro(h | h | h | h | h)
  ·rw[hg]at h;cases h
  ·omega
  ·omega
  ·exact h (Qky hk)
  ·rw[<-Qce _ t (xA _) htz,hs]at h;cases h
theorem Qh2{w:World}{b:Nat}{v:TV}(h:w.heap[b]? = some (trO v)):w.cell? ⟨b,0,none⟩=some (.int .i64 v.kind)/\w.cell? ⟨b,1,none⟩=some (.string v.text)/\w.cell? ⟨b,2,none⟩=some (.slice v.la v.ll v.lc)/\w.cell? ⟨b,3,none⟩=some (.slice v.ka v.kl v.kc)/\b<w.heap.size :=
 ⟨Qab h 0 _ rfl,Qab h 1 _ rfl,Qab h 2 _ rfl,Qab h 3 _ rfl,Qaa h⟩
theorem Qzl(S S':Nat->Prop)(A:yE)(c0:Nat)(ps:List Tr)(m:Int)(t:Tr)(v:TV)(w:World)(hp:TrAt S w (Qa9 ps) ⟨0,⟨#[]⟩,none,0,0,A,ps.length,c0⟩)(hf:Qgm (Qa9 ps)=true)(hw:Qbg (Qa9 ps)=true)
  (hz:∀ t∈ps,Qai t<=1000) (hl:Qal ps<=90000) (ht:TrAt S' w t v) (htf:Qgm t=true) (htw:Qbg t=true) (htz:Qai t<=1000) :
  Calls prog 9 #[.slice A ps.length c0,.int .i64 m,.agg #[.int .i64 v.kind,.string v.text,.slice v.la v.ll v.lc,.slice v.ka v.kl v.kc]] w fun e w'=>∃ u:TV,e = .returned (.tuple #[.agg #[.int .i64 u.kind,.string u.text,.slice u.la u.ll u.lc,.slice u.ka u.kl u.kc],.int .i64 (Qdu ps m t).1])/\TrAt (fun b=>w.heap.size<=b/\b<w'.heap.size) w' (exT ps m t) u/\Below w.heap.size w w':=by
 have HB0:=hQ (Qe0 w (trO v) (trO ⟨0,⟨#[]⟩,none,0,0,none,0,0⟩));have K0:=hQ (Qdv w (trO v) (trO ⟨0,⟨#[]⟩,none,0,0,none,0,0⟩));have hk:=ht.kl.2.2.1;obtain⟨vk,vx,vla,vll,vlc,vka,vkl,vkc⟩:=v;simp only at hk;subst hk;have HP0:=hQ (Qnq S A c0 ps _ (hp.keep HB0.out) (Qf9 _ hf) hz hw);have HSH:=hQ (fun(w':World) (hb:Below w.heap.size w w')=>Qft _ S' t ⟨t.kind,vx,vla,vll,vlc,vka,vkl,vkc⟩ w' (xA _) (ht.keep hb) htz htw);have HPLN:=hQ (fun(M:Nat) (hM:M<ps.length) (hg:Qc1 ps=true) (hls:LsT t) (w':World) (hb:Below w.heap.size w w')=>Zez S S' A c0 ps M t ⟨t.kind,vx,vla,vll,vlc,vka,vkl,vkc⟩ w' (hp.keep hb) hf hw hg hz hl hM (ht.keep hb) htf htw htz hls);have HTZ:=hQ htz;rw[Zmw];clear hp hf hw hz hl ht htf htw htz;cases hg:Qc1 ps with
 | false =>
  have HV:=hQ (Qld (m:=m) HTZ.out (.inl hg));rw[hg]at HP0;rw[HV.out];clear hg;go_enter func9,ntmps9;go_wp2_with fail;go_at_call 29;refine HP0.out.mono ?_;rintro e w1⟨rfl,hb1⟩;have HB1:=hQ (HB0.out.trans (hb1.mono HB0.out.size));have HR1:=hQ ((hb1.block _ (Qaa K0.out.2)).trans K0.out.2);clear hb1;obtain⟨r0,r1,r2,r3,rl,rf⟩:=Qah HR1.out;go_wp2_with fail;refine bodyPost_ret (v:=.tuple #[.agg #[.int .i64 0,.string ⟨#[]⟩,.slice none 0 0,.slice none 0 0],.int .i64 5]) (by simp[results,results9,go_sem, *]) rfl ?_;exact Qod rfl (by decide) HB1.out
 | true =>
  rw[hg]at HP0;have HG:=hQ hg;clear hg
  by_cases h1:m<0
  ·have HV:=hQ (Qld (ps:=ps) (m:=m) HTZ.out (.inr (.inl h1)));rw[HV.out];go_enter func9,ntmps9;go_wp2_with fail;go_at_call 29;refine HP0.out.mono ?_;rintro e w1⟨rfl,hb1⟩;have HB1:=hQ (HB0.out.trans (hb1.mono HB0.out.size));have HR1:=hQ ((hb1.block _ (Qaa K0.out.2)).trans K0.out.2);clear hb1;obtain⟨r0,r1,r2,r3,rl,rf⟩:=Qah HR1.out;go_wp2_with fail;refine bodyPost_ret (v:=.tuple #[.agg #[.int .i64 0,.string ⟨#[]⟩,.slice none 0 0,.slice none 0 0],.int .i64 5]) (by simp[results,results9,go_sem, *]) rfl ?_;exact Qod rfl (by decide) HB1.out
  ·by_cases h2:(ps.length:Int)<=m
   ·have HV:=hQ (Qld (ps:=ps) (m:=m) HTZ.out (.inr (.inr (.inl h2))));have h3:¬ m<(ps.length:Int):=by omega
    rw[HV.out];go_enter func9,ntmps9;go_wp2_with fail;go_at_call 29;refine HP0.out.mono ?_;rintro e w1⟨rfl,hb1⟩;have HB1:=hQ (HB0.out.trans (hb1.mono HB0.out.size));have HR1:=hQ ((hb1.block _ (Qaa K0.out.2)).trans K0.out.2);clear hb1;obtain⟨r0,r1,r2,r3,rl,rf⟩:=Qah HR1.out;go_wp2_with fail;refine bodyPost_ret (v:=.tuple #[.agg #[.int .i64 0,.string ⟨#[]⟩,.slice none 0 0,.slice none 0 0],.int .i64 5]) (by simp[results,results9,go_sem, *]) rfl ?_;exact Qod rfl (by decide) HB1.out
   ·obtain⟨M,rfl⟩:∃ M:Nat,m=(M:Int):=⟨m.toNat,by omega⟩;have hM:M<ps.length:=by omega
    have h3:(M:Int)<(ps.length:Int):=by omega
    have h0:(0:Int)<=(M:Int):=by omega
    cases h4:Qfd 3 t.kind with
    | false =>
     have HV:=hQ (Qld (ps:=ps) (m:=(M:Int)) HTZ.out (.inr (.inr (.inr (.inl h4)))));rw[HV.out];have H4:=hQ h4;clear h4;go_enter func9,ntmps9;go_wp2_with fail;go_at_call 29;refine HP0.out.mono ?_;rintro e w1⟨rfl,hb1⟩;have HB1:=hQ (HB0.out.trans (hb1.mono HB0.out.size));have HR1:=hQ ((hb1.block _ (Qaa K0.out.2)).trans K0.out.2);obtain⟨x0,x1,x2,x3,xl⟩:=Qh2 ((hb1.block _ (Qaa K0.out.1)).trans K0.out.1);clear hb1;obtain⟨r0,r1,r2,r3,rl,rf⟩:=Qah HR1.out;go_wp2_with fail;go_at_call 30;refine(Qcd _ _).mono ?_;rintro e w2⟨rfl,rfl⟩;rw[H4.out];go_wp2_with fail;refine bodyPost_ret (v:=.tuple #[.agg #[.int .i64 0,.string ⟨#[]⟩,.slice none 0 0,.slice none 0 0],.int .i64 5]) (by simp[results,results9,go_sem, *]) rfl ?_;exact Qod rfl (by decide) HB1.out
    | true =>
     have H4:=hQ h4;clear h4;cases h5:Qa2 t with
     | false =>
      have HV:=hQ (Qld (ps:=ps) (m:=(M:Int)) HTZ.out (.inr (.inr (.inr (.inr h5)))));rw[HV.out];rw[h5]at HSH;clear h5;go_enter func9,ntmps9;go_wp2_with fail;go_at_call 29;refine HP0.out.mono ?_;rintro e w1⟨rfl,hb1⟩;have HB1:=hQ (HB0.out.trans (hb1.mono HB0.out.size));have HR1:=hQ ((hb1.block _ (Qaa K0.out.2)).trans K0.out.2);obtain⟨x0,x1,x2,x3,xl⟩:=Qh2 ((hb1.block _ (Qaa K0.out.1)).trans K0.out.1);clear hb1;go_wp2_with fail;go_at_call 30;refine(Qcd _ _).mono ?_;rintro e w2⟨rfl,rfl⟩;rw[H4.out];go_wp2_with fail;go_at_call 31;refine(HSH.out _ HB1.out).mono ?_;rintro e w3⟨rfl,hb3⟩;have HB3:=hQ (HB1.out.trans (hb3.mono HB1.out.size));have HR3:=hQ ((hb3.block _ (Qaa HR1.out)).trans HR1.out);clear hb3 x0 x1 x2 x3 xl;obtain⟨r0,r1,r2,r3,rl,rf⟩:=Qah HR3.out;go_wp2_with fail;refine bodyPost_ret (v:=.tuple #[.agg #[.int .i64 0,.string ⟨#[]⟩,.slice none 0 0,.slice none 0 0],.int .i64 5]) (by simp[results,results9,go_sem, *]) rfl ?_;exact Qod rfl (by decide) HB3.out
     | true =>
      have HV:=hQ (Ze5 HTZ.out HG.out hM H4.out h5);have HLS:=hQ (show LsT t from⟨h5,Qky H4.out⟩);rw[HV.out];rw[h5]at HSH;have HPN:=hQ (HPLN.out M hM HG.out HLS.out);obtain⟨R,hR⟩:∃ R,R=Qtg ps M t:=⟨_,rfl⟩;rw[<-hR]at HPN |-;clear h5 hR;go_enter func9,ntmps9;go_wp2_with fail;go_at_call 29;refine HP0.out.mono ?_;rintro e w1⟨rfl,hb1⟩;have HB1:=hQ (HB0.out.trans (hb1.mono HB0.out.size));have HR1:=hQ ((hb1.block _ (Qaa K0.out.2)).trans K0.out.2);have HX1:=hQ ((hb1.block _ (Qaa K0.out.1)).trans K0.out.1);obtain⟨x0,x1,x2,x3,xl⟩:=Qh2 HX1.out;clear hb1;go_wp2_with fail;go_at_call 30;refine(Qcd _ _).mono ?_;rintro e w2⟨rfl,rfl⟩;rw[H4.out];go_wp2_with fail;go_at_call 31;refine(HSH.out _ HB1.out).mono ?_;rintro e w3⟨rfl,hb3⟩;have HB3:=hQ (HB1.out.trans (hb3.mono HB1.out.size));have HR3:=hQ ((hb3.block _ (Qaa HR1.out)).trans HR1.out);have HX3:=hQ ((hb3.block _ (Qaa HX1.out)).trans HX1.out);clear hb3 x0 x1 x2 x3 xl;obtain⟨x0,x1,x2,x3,xl⟩:=Qh2 HX3.out;go_wp2_with fail;go_at_call 32;refine(HPN.out _ HB3.out).mono ?_;rintro e w4⟨u,rfl,hu,hb4⟩;have HB4:=hQ (HB3.out.trans (hb4.mono HB3.out.size));have HR4:=hQ ((hb4.block _ (Qaa HR3.out)).trans HR3.out);have HU:=hQ hu;have HS3:=hQ (show w.heap.size+1<w3.heap.size from Qaa HR3.out);clear hu hb4 x0 x1 x2 x3 xl;obtain⟨r0,r1,r2,r3,rl,rf⟩:=Qah HR4.out;obtain⟨uk,ux,ula,ull,ulc,uka,ukl,ukc⟩:=u;go_wp2_with fail;refine bodyPost_ret (v:=.tuple #[.agg #[.int .i64 uk,.string ux,.slice ula ull ulc,.slice uka ukl ukc],.int .i64 R.1]) (by simp[results,results9,go_sem, *]) rfl ?_;refine⟨⟨uk,ux,ula,ull,ulc,uka,ukl,ukc⟩,rfl,?_,HB4.out.trans ((Qb6 w4 (w.heap.size+1) ⟨uk,ux,ula,ull,ulc,uka,ukl,ukc⟩).mono (Nat.le_succ _))⟩;have hs:=Qb7 w4 (w.heap.size+1) ⟨uk,ux,ula,ull,ulc,uka,ukl,ukc⟩;have h3:=HS3.out;have h4:=HB3.out.size;exact TrAt.move (w':=Qek w4 (w.heap.size+1) ⟨uk,ux,ula,ull,ulc,uka,ukl,ukc⟩) (fun b hb=>⟨by have h5:=hb.1;omega,by have h5:=hb.2;show b<(Qek w4 (w.heap.size+1) ⟨uk,ux,ula,ull,ulc,uka,ukl,ukc⟩).heap.size;omega⟩) (fun b hb _=>Qa3 _ (by have h5:=hb.1;omega)) _ _ HU.out
theorem Zla(ps:List Tr)(m:Int)(t:Tr):Qg1 (exT ps m t) (exT ps m t)=true:=by
 unfold exT
 split
 ·exact Qsz _ _
 ·unfold noTr;rw[Qg1,Qf4];simp[Qc6]
theorem Zh8(ps:List Tr)(m:Int)(t:Tr):Qbs (exT ps m t)=true:=by
 unfold exT
 split
 ·exact Qf9 _ (Qwo _ _)
 ·rfl
end Go.Proofs.YtfjpemdejoejbaaGreat
