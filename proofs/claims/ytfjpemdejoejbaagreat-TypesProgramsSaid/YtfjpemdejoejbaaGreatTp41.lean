/- Part 41 -/
import Derived.Test.YtfjpemdejoejbaaGreatTp40
set_option maxRecDepth 100000
set_option maxHeartbeats 4000000
namespace Go.Proofs.YtfjpemdejoejbaaGreat
open Go.Proofs.Tryz Go.RowKit Go.Shelf
theorem Qsw{ps:List Tr}(hz:∀ t∈ps,Qai t<=1000):(f:Nat)->(r:Int × Int × Bool)->(met:List (Int × Int))->(n:Nat)->(R:Int × Nat × Int)->goL ps f r met n=some R->R.2.1<=n+1000*f
 | 0,_,_,_,_,h=>by rw[goL]at h;cases h
 | f+1,r,met,n,R,h=>by
  have hb:∀ m d:Nat,Qbn (Qlr ps m d)<=1000:=fun m d=>by
   have h1:=Qfb (Qlr ps m d);have h0:Qbn noTr<=1000:=by unfold noTr;rw[Qbn,xN (by decide)];omega
   unfold Qlr Qjj at h1 |-;cases ht:ps[m]? with
   | none=>exact h0
   | some t =>
    rw[ht]at h1;simp only[Option.getD_some]at h1 |-;cases hk:t.kids[d]? with
    | none=>exact h0
    | some k =>
     rw[hk]at h1;simp only[Option.getD_some]at h1 |-;cases ha:k.kids[0]? with
     | none=>exact h0
     | some a =>
      rw[ha]at h1;simp only[Option.getD_some]at h1 |-;have h2:=Qbi ha;have h3:=Qbi hk;have h4:=hz t (yA ht);omega
  have h3:=hb r.1.toNat r.2.1.toNat;rw[goL]at h
  split at h
  ·split at h
   ·injection h with h;rw[<-h];exact xZ _
   ·split at h
    ·have h2:=Qsw hz f _ _ _ R h;omega
    ·injection h with h;rw[<-h];show n+Qbn (Qlr ps r.1.toNat r.2.1.toNat)<=_
     omega
  ·injection h with h;rw[<-h];exact xZ _
theorem Qy2{ps:List Tr}(hz:∀ t∈ps,Qai t<=1000){m B:Nat}{t:Tr}(ht:Qai t<=B):(Qtg ps m t).2.1<=B+1000*(Qal ps+1):=by
 have h1:=Qfb t
 by_cases h9:(Qbd t).kind=9
 ·have h2:=Qsw hz _ _ _ _ _ (Qun (ps:=ps) (m:=m) h9);exact xQ h2 (Nat.add_le_add_right (xQ h1 ht) _)
 ·have e:Qtg ps m t=(0,Qbn t,(Qbd t).kind):=by unfold Qtg;rw[xN h9]
  rw[e];exact xQ (xQ h1 ht) (Nat.le_add_right _ _)
theorem Quy{ps:List Tr}(hz:∀ t∈ps,Qai t<=1000){m:Int}{t:Tr}{B:Nat}(ht:Qai t<=B):(Qdu ps m t).2.1<=B+1000*(Qal ps+1):=by
 have h:=Qy2 (m:=m.toNat) hz ht;unfold Qdu
 split
 ·exact xZ _
 ·exact h
def Znw(n:Nat)(k:Int)(w:World)(i:Value)(wr:World):Prop:=∃ (j:Nat) (u:TV),i = .int .i64 (j:Int)/\j<=n/\wr.heap[w.heap.size]? = some (flO n k)/\wr.heap[w.heap.size+1]? = some (trO ⟨0,⟨#[]⟩,none,0,0,none,0,0⟩)/\wr.heap[w.heap.size+2]? = some (trO u) /\
 TrAt (fun b=>w.heap.size+3<=b/\b<wr.heap.size) wr (Qcz j (Qem k)) u/\Below w.heap.size w wr
theorem Zdz{n j:Nat}{k:Int}{w wr WS:World}{u:TV}(hj:j<n)(h0:wr.heap[w.heap.size]? = some (flO n k))(h1:wr.heap[w.heap.size+1]? = some (trO ⟨0,⟨#[]⟩,none,0,0,none,0,0⟩))(l2:w.heap.size+2<wr.heap.size)
  (ht:TrAt (fun b=>w.heap.size+3<=b/\b<wr.heap.size) wr (Qcz j (Qem k)) u) (hs:WS.heap.size=wr.heap.size) (hk:∀ b,b≠w.heap.size+2->WS.heap[b]? = wr.heap[b]?) (hx:WS.heap[w.heap.size+2]? = some (trO ⟨8,⟨#[]⟩,none,0,0,some ⟨wr.heap.size,0,none⟩,1,1⟩)) (hb:Below w.heap.size w WS) :
  Znw n k w (.int .i64 ((j+1:Nat):Int)) (WS.alloc (trO u)):=by
 have ha:=Qcs WS (trO u);have hkb:∀ b,b<wr.heap.size->b≠w.heap.size+2->(WS.alloc (trO u)).heap[b]? = wr.heap[b]?:=fun b hl hn=>(ha.block b (by omega)).trans (hk b hn)
 have hnew:(WS.alloc (trO u)).heap[wr.heap.size]? = some (trO u):=by rw[<-hs];exact xH _ _
 have hsz:(WS.alloc (trO u)).heap.size=wr.heap.size+1:=by rw[xI,hs]
 refine⟨j+1,⟨8,⟨#[]⟩,none,0,0,some ⟨wr.heap.size,0,none⟩,1,1⟩,rfl,hj,(hkb _ (Qaa h0) (by omega)).trans h0,(hkb _ (Qaa h1) (by omega)).trans h1,(ha.block _ (by omega)).trans hx,?_,hb.alloc hb.size _⟩;show TrAt (fun b=>w.heap.size+3<=b/\b<(WS.alloc (trO u)).heap.size) (WS.alloc (trO u)) (.mk 8 ⟨#[]⟩ [] [Qcz j (Qem k)]) ⟨8,⟨#[]⟩,none,0,0,some ⟨wr.heap.size,0,none⟩,1,1⟩
 refine Qqs (us:=[u]) 8 ⟨#[]⟩ rfl (fun i a v ha hv=>?_) hnew ⟨by omega,by omega⟩ 1 rfl
 match i,ha,hv with
 | 0,ha,hv =>
  injection ha with ha;injection hv with hv;subst ha hv;exact TrAt.move (fun b hb=>⟨hb.1,by omega⟩) (fun b hb hl=>hkb b hl (by omega)) _ _ ht
 | i+1,ha,_=>simp at ha
theorem Qsx(n:Nat)(k:Int)(w:World)(hn:n<=100000000) :
  Calls prog 28 #[.agg #[.int .i64 n,.int .i64 k]] w fun e w'=>∃ u:TV,e = .returned (.agg #[.int .i64 u.kind,.string u.text,.slice u.la u.ll u.lc,.slice u.ka u.kl u.kc])/\TrAt (fun b=>w.heap.size<=b/\b<w'.heap.size) w' (Qcz n (Qem k)) u/\Below w.heap.size w w':=by
 have h3:=Qgz (xC w.heap.size w) (flO n k) (trO ⟨0,⟨#[]⟩,none,0,0,none,0,0⟩) (trO ⟨k,⟨#[]⟩,none,0,0,none,0,0⟩);have H3:=hQ h3;have K0:=hQ (xH w (flO n k));have k0:(w.alloc (flO n k)).cell? ⟨w.heap.size,0,none⟩=some (.int .i64 n):=Qab K0.out 0 _ rfl;have k1:(w.alloc (flO n k)).cell? ⟨w.heap.size,1,none⟩=some (.int .i64 k):=Qab K0.out 1 _ rfl;clear h3;go_enter func28,ntmps28;go_wp2;clear k0 k1
 go_loopw [9] (fun i wr=>Znw n k w i wr) (fun i _=>n-(intOf i).toNat)
 case atStart =>
  refine⟨0,⟨k,⟨#[]⟩,none,0,0,none,0,0⟩,rfl,xZ _,?_,Qk5 w _ _ _,?_,Qj2 _ _ _ _,H3.out⟩
  ·exact((Qcs _ _).block _ (by rw[xI,xI];omega)).trans (Qdv w _ _).1
  ·have h:=xH ((w.alloc (flO n k)).alloc (trO ⟨0,⟨#[]⟩,none,0,0,none,0,0⟩)) (trO ⟨k,⟨#[]⟩,none,0,0,none,0,0⟩);rw[xI,xI]at h;exact h
 case round =>
  obtain⟨j,u,rfl,hj,h0,h1,h2,ht,hb⟩:=hrel;have H0:=hQ h0;have H1:=hQ h1;have H2:=hQ h2;have HT:=hQ ht;have HB:=hQ hb;obtain⟨uk,ux,ula,ull,ulc,uka,ukl,ukc⟩:=u;have u0:wr.cell? ⟨w.heap.size+1+1,0,none⟩=some (.int .i64 uk):=Qab h2 0 _ rfl;have u1:wr.cell? ⟨w.heap.size+1+1,1,none⟩=some (.string ux):=Qab h2 1 _ rfl;have u2:wr.cell? ⟨w.heap.size+1+1,2,none⟩=some (.slice ula ull ulc):=Qab h2 2 _ rfl;have u3:wr.cell? ⟨w.heap.size+1+1,3,none⟩=some (.slice uka ukl ukc):=Qab h2 3 _ rfl;have ul:w.heap.size+1+1<wr.heap.size:=Qaa h2;have uf:∀ o,wr.frozen? ⟨w.heap.size+1+1,o,none⟩=false:=xL h2;have r0:wr.cell? ⟨w.heap.size+1,0,none⟩=some (.int .i64 0):=Qab h1 0 _ rfl;have r1:wr.cell? ⟨w.heap.size+1,1,none⟩=some (.string ⟨#[]⟩):=Qab h1 1 _ rfl;have r2:wr.cell? ⟨w.heap.size+1,2,none⟩=some (.slice none 0 0):=Qab h1 2 _ rfl;have r3:wr.cell? ⟨w.heap.size+1,3,none⟩=some (.slice none 0 0):=Qab h1 3 _ rfl;have rl:=Qaa h1;have rf:=xL h1;clear h0 h1 h2 ht hb
  by_cases hlt:j<n
  ·have i1:(j:Int)<(n:Int):=by omega
   have i2:(j:Int)+1<=100000001:=by omega
   have HLT:=hQ hlt;go_wp2;go_roundw
   case measure=>first | (simp[intOf];done) | (simp[intOf];omega)
   case rel =>
    obtain⟨x8,hx8⟩:∃ x:TV,x=⟨8,⟨#[]⟩,none,0,0,some ⟨wr.heap.size,0,none⟩,1,1⟩:=⟨_,rfl⟩;have e1:=Qb7 wr (w.heap.size+2) x8;have e2:∀ b,b≠w.heap.size+2->(Qek wr (w.heap.size+2) x8).heap[b]? = wr.heap[b]?:=fun b hn=>Qa3 x8 hn
    have e3:=Qf2 (w:=wr) x8 H2.out;have e4:=HB.out.trans ((Qb6 wr (w.heap.size+2) x8).mono (Nat.le_add_right _ _));obtain⟨WS,hWS⟩:∃ W,W=Qek wr (w.heap.size+2) x8:=⟨_,rfl⟩;rw[<-hWS]at e1 e2 e3 e4;rw[hx8]at e3 hWS;have e5:=Zdz HLT.out H0.out H1.out (Qaa H2.out) HT.out e1 e2 e3 e4;rw[hWS]at e5;exact e5
  ·obtain rfl:j=n:=by omega
   go_wp2;refine bodyPost_ret (v:=.agg #[.int .i64 uk,.string ux,.slice ula ull ulc,.slice uka ukl ukc]) (by simp[results,results28,go_sem, *]) rfl ?_;have e1:=Qb7 wr (w.heap.size+1) ⟨uk,ux,ula,ull,ulc,uka,ukl,ukc⟩;have e2:∀ b,b≠w.heap.size+1->(Qek wr (w.heap.size+1) ⟨uk,ux,ula,ull,ulc,uka,ukl,ukc⟩).heap[b]? = wr.heap[b]?:=fun b hn=>Qa3 ⟨uk,ux,ula,ull,ulc,uka,ukl,ukc⟩ hn
   have e4:=HB.out.trans ((Qb6 wr (w.heap.size+1) ⟨uk,ux,ula,ull,ulc,uka,ukl,ukc⟩).mono (Nat.le_succ _));refine⟨⟨uk,ux,ula,ull,ulc,uka,ukl,ukc⟩,rfl,?_,e4⟩;show TrAt (fun b=>w.heap.size<=b/\b<(Qek wr (w.heap.size+1) ⟨uk,ux,ula,ull,ulc,uka,ukl,ukc⟩).heap.size) (Qek wr (w.heap.size+1) ⟨uk,ux,ula,ull,ulc,uka,ukl,ukc⟩) _ _
   exact TrAt.move (fun b hb=>⟨by omega,by omega⟩) (fun b hb _=>e2 b (by omega)) _ _ HT.out
def exT(ps:List Tr)(m:Int)(t:Tr):Tr:=if (Qdu ps m t).1=0 then Qcz (Qdu ps m t).2.1 (Qem (Qdu ps m t).2.2) else noTr
theorem Zma{ps:List Tr}{m:Int}{t:Tr}(h:(Qdu ps m t).1≠0):exT ps m t=noTr:=by unfold exT;rw[xN h]
theorem Zd0{ps:List Tr}{m:Int}{t:Tr}(h:(Qdu ps m t).1=0):exT ps m t=Qcz (Qdu ps m t).2.1 (Qem (Qdu ps m t).2.2):=by unfold exT;rw[xO h]
theorem Qpm(S S':Nat->Prop)(A:yE)(c:Nat)(ps:List Tr)(m:Int)(t:Tr)(v:TV)(w:World)(hp:TrAt S w (Qa9 ps) ⟨0,⟨#[]⟩,none,0,0,A,ps.length,c⟩)(hf:Qgm (Qa9 ps)=true)(hw:Qbg (Qa9 ps)=true)
  (hz:∀ t∈ps,Qai t<=1000) (hl:Qal ps<=90000) (ht:TrAt S' w t v) (hts:Qbs t=true) (htw:Qbg t=true) (htz:Qai t<=2000000) (hss:Qa2 t=Qam t) :
  Calls prog 8 #[.slice A ps.length c,.int .i64 m,.agg #[.int .i64 v.kind,.string v.text,.slice v.la v.ll v.lc,.slice v.ka v.kl v.kc]] w fun e w'=>∃ u:TV,e = .returned (.tuple #[.agg #[.int .i64 u.kind,.string u.text,.slice u.la u.ll u.lc,.slice u.ka u.kl u.kc],.int .i64 (Qdu ps m t).1])/\TrAt (fun b=>w.heap.size<=b/\b<w'.heap.size) w' (exT ps m t) u/\Below w.heap.size w w':=by
 obtain⟨bx0,bx1⟩:=Qdv w (trO v) (trO ⟨0,⟨#[]⟩,none,0,0,none,0,0⟩);have hb0:=Qe0 w (trO v) (trO ⟨0,⟨#[]⟩,none,0,0,none,0,0⟩);have HB0:=hQ hb0;have BX0:=hQ bx0;have BX1:=hQ bx1;have HC:=hQ (Qux S S' A c ps m t v _ (hp.keep hb0) hf hw hz hl (ht.keep hb0) hts htw htz hss);have HN:=hQ (show(Qdu ps m t).2.1<=100000000 from xQ (Quy (m:=m) hz htz) (by omega));obtain⟨R,hR⟩:∃ R,R=Qdu ps m t:=⟨_,rfl⟩;have HY:=hQ (show R.1=0->exT ps m t=Qcz R.2.1 (Qem R.2.2) from by rw[hR];exact Zd0);have HNO:=hQ (show R.1≠0->exT ps m t=noTr from by rw[hR];exact Zma);rw[<-hR]at HC HN |-;clear hp hf hw hz hl ht hts htw htz hss hb0 bx0 bx1 hR;obtain⟨vk,vx,vla,vll,vlc,vka,vkl,vkc⟩:=v;obtain⟨E,N,K⟩:=R
 by_cases hE:E=0
 ·subst hE;have HEX:=hQ (HY.out rfl);have HCT:=hQ (fun w'=>Qsx N K w' HN.out);clear HY HNO;go_enter func8,ntmps8
  go_wp2_with (first
   | (go_at_call 27;refine HC.out.mono ?_;rintro e w1⟨rfl,hb⟩;have HB1:=hQ hb;have HR1:=hQ ((hb.block (w.heap.size+1) (by rw[xI,xI];omega)).trans BX1.out);have HB2:=hQ (hb.alloc hb.size (flO N K));clear hb)
   | (go_at_call 28;refine(HCT.out _).mono ?_;rintro e w3⟨u,rfl,hu,hb⟩;have HU:=hQ hu;have HB3:=hQ hb;have HR3:=hQ ((hb.block (w.heap.size+1) (by rw[xI];have:=Qaa HR1.out;omega)).trans (((Qcs w1 (flO N K)).block _ (Qaa HR1.out)).trans HR1.out));have r0:w3.cell? ⟨w.heap.size+1,0,none⟩=some (.int .i64 0):=Qab HR3.out 0 _ rfl;have r1:w3.cell? ⟨w.heap.size+1,1,none⟩=some (.string ⟨#[]⟩):=Qab HR3.out 1 _ rfl;have r2:w3.cell? ⟨w.heap.size+1,2,none⟩=some (.slice none 0 0):=Qab HR3.out 2 _ rfl;have r3:w3.cell? ⟨w.heap.size+1,3,none⟩=some (.slice none 0 0):=Qab HR3.out 3 _ rfl;have rl:=Qaa HR3.out;have rf:=xL HR3.out;clear hu hb))
  obtain⟨uk,ux,ula,ull,ulc,uka,ukl,ukc⟩:=u;refine bodyPost_ret (v:=.tuple #[.agg #[.int .i64 uk,.string ux,.slice ula ull ulc,.slice uka ukl ukc],.int .i64 0]) (by simp[results,results8,go_sem, *]) rfl ?_;have e1:=Qb7 w3 (w.heap.size+1) ⟨uk,ux,ula,ull,ulc,uka,ukl,ukc⟩;have e2:∀ b,b≠w.heap.size+1->(Qek w3 (w.heap.size+1) ⟨uk,ux,ula,ull,ulc,uka,ukl,ukc⟩).heap[b]? = w3.heap[b]?:=fun b hn=>Qa3 ⟨uk,ux,ula,ull,ulc,uka,ukl,ukc⟩ hn
  have hlt1:=Qaa HR1.out;have hB:=HB0.out.trans ((HB2.out.trans (HB3.out.mono (by have:=HB2.out.size;exact this))).mono HB0.out.size);have e4:=hB.trans ((Qb6 w3 (w.heap.size+1) ⟨uk,ux,ula,ull,ulc,uka,ukl,ukc⟩).mono (Nat.le_succ _));refine⟨⟨uk,ux,ula,ull,ulc,uka,ukl,ukc⟩,rfl,?_,e4⟩;rw[HEX.out];show TrAt (fun b=>w.heap.size<=b/\b<(Qek w3 (w.heap.size+1) ⟨uk,ux,ula,ull,ulc,uka,ukl,ukc⟩).heap.size) (Qek w3 (w.heap.size+1) ⟨uk,ux,ula,ull,ulc,uka,ukl,ukc⟩) _ _
  have hsa:w1.heap.size<=(w1.alloc (.cells #[.int .i64 N,.int .i64 K] 52)).heap.size:=by rw[xI];omega
  have h0:w.heap.size+1<w1.heap.size:=hlt1;have hu:=HU.out;generalize (w1.alloc (.cells #[.int .i64 N,.int .i64 K] 52)).heap.size=q at hsa hu;exact TrAt.move (fun b hb=>⟨by have:=hb.1;omega,by have:=hb.2;omega⟩) (fun b hb _=>e2 b (by have:=hb.1;omega)) _ _ hu
 ·have HEX:=hQ (HNO.out hE);have nE:=Zlc hE;have nE2:=Qcr hE;clear HY HNO;go_enter func8,ntmps8;go_wp2_with (go_at_call 27;refine HC.out.mono ?_;rintro e w1⟨rfl,hb⟩;have HB1:=hQ hb;have HR1:=hQ ((hb.block (w.heap.size+1) (by rw[xI,xI];omega)).trans BX1.out);have r0:w1.cell? ⟨w.heap.size+1,0,none⟩=some (.int .i64 0):=Qab HR1.out 0 _ rfl;have r1:w1.cell? ⟨w.heap.size+1,1,none⟩=some (.string ⟨#[]⟩):=Qab HR1.out 1 _ rfl;have r2:w1.cell? ⟨w.heap.size+1,2,none⟩=some (.slice none 0 0):=Qab HR1.out 2 _ rfl;have r3:w1.cell? ⟨w.heap.size+1,3,none⟩=some (.slice none 0 0):=Qab HR1.out 3 _ rfl;have rl:=Qaa HR1.out;have rl2:=Nat.lt_of_succ_lt rl;have rf:=xL HR1.out;clear hb)
  refine bodyPost_ret (v:=.tuple #[.agg #[.int .i64 0,.string ⟨#[]⟩,.slice none 0 0,.slice none 0 0],.int .i64 E]) (by simp[results,results8,go_sem, *]) rfl ?_;have hB:=HB0.out.trans (HB1.out.mono HB0.out.size);have e4:=hB.trans ((Qb6 w1 (w.heap.size+1) ⟨0,⟨#[]⟩,none,0,0,none,0,0⟩).mono (Nat.le_succ _));refine⟨⟨0,⟨#[]⟩,none,0,0,none,0,0⟩,rfl,?_,e4.alloc e4.size _⟩;rw[HEX.out];exact Qnc _ _
theorem Qpn(S S':Nat->Prop)(A:yE)(c:Nat)(ps:List Tr)(m:Int)(t:Tr)(v:TV)(w:World)(hp:TrAt S w (Qa9 ps) ⟨0,⟨#[]⟩,none,0,0,A,ps.length,c⟩)(hf:Qgm (Qa9 ps)=true)(hw:Qbg (Qa9 ps)=true)
  (hz:∀ t∈ps,Qai t<=1000) (hl:Qal ps<=90000) (ht:TrAt S' w t v) (hts:Qbs t=true) (htw:Qbg t=true) (htz:Qai t<=1000) :
  Calls prog 8 #[.slice A ps.length c,.int .i64 m,.agg #[.int .i64 v.kind,.string v.text,.slice v.la v.ll v.lc,.slice v.ka v.kl v.kc]] w fun e w'=>∃ u:TV,e = .returned (.tuple #[.agg #[.int .i64 u.kind,.string u.text,.slice u.la u.ll u.lc,.slice u.ka u.kl u.kc],.int .i64 (Qdu ps m t).1])/\TrAt (fun b=>w.heap.size<=b/\b<w'.heap.size) w' (exT ps m t) u/\Below w.heap.size w w':=Qpm S S' A c ps m t v w hp hf hw hz hl ht hts htw (by omega) (Qce _ t (xA _) htz)
def LsT(t:Tr):Prop:=Qa2 t=true/\5<=t.kind/\t.kind<=9
theorem Qmw{u:Tr}(hu:LsT u):(n:Nat)->LsT (Qcz n u)
 | 0=>hu
 | n+1=>by
  have ih:=Qmw hu n;refine⟨?_,by show 5<=(8:Int);omega,by show(8:Int)<=9;omega⟩;rw[Qcz,Qd8];have e1:(Tr.mk 8 ⟨#[]⟩ [] [Qcz n u]).kind=8:=rfl;have e2:(Tr.mk 8 ⟨#[]⟩ [] [Qcz n u]).kids = [Qcz n u]:=rfl;have e3:(Tr.mk 8 ⟨#[]⟩ [] [Qcz n u]).text=⟨#[]⟩:=rfl;rw[e1,e2,e3,Qbo,Qbo,ih.1];have e4:Qg0 8 [Qcz n u].length 0 (Qcz n u).kind=(decide (5<=(Qcz n u).kind) && decide ((Qcz n u).kind<=9)):=rfl;rw[e4,xS ih.2.1,xS ih.2.2];rfl
theorem Qlb{u:Tr}(hu:u.kind≠8):(n:Nat)->Qbd (Qcz n u)=u/\Qbn (Qcz n u)=n
 | 0=>Qfk hu
 | n+1=>by
  have ih:=Qlb hu n;have h:=Qfj (t:=Qcz (n+1) u) (k:=Qcz n u) (r:=[]) rfl rfl;rw[h.1,h.2,ih.1,ih.2];exact⟨rfl,rfl⟩
def LfL(t:Tr)(w:World)(k:Nat)(wr:World):Prop:=∃ (x:Tr) (u:TV),SizeOf.sizeOf x<=k/\LsT x/\Qbd t=Qbd x/\wr.heap[w.heap.size]? = some (trO u)/\wr.heap[w.heap.size+1]? = some (trO ⟨0,⟨#[]⟩,none,0,0,none,0,0⟩)/\TrAt (fun b=>b<w.heap.size) wr x u/\Below w.heap.size w wr
theorem Qq3(S:Nat->Prop)(t:Tr)(v:TV)(w:World)(h:TrAt S w t v)(ht:LsT t) :
  Calls prog 38 #[.agg #[.int .i64 v.kind,.string v.text,.slice v.la v.ll v.lc,.slice v.ka v.kl v.kc]] w fun e w'=>∃ u:TV,e = .returned (.agg #[.int .i64 u.kind,.string u.text,.slice u.la u.ll u.lc,.slice u.ka u.kl u.kc])/\TrAt (fun b=>b<w.heap.size) w' (Qbd t) u/\Below w.heap.size w w':=by
 have HL:=hQ (TrAt.low _ _ h);have H2:=hQ (Qe0 w (trO v) (trO ⟨0,⟨#[]⟩,none,0,0,none,0,0⟩));have K2:=hQ (Qdv w (trO v) (trO ⟨0,⟨#[]⟩,none,0,0,none,0,0⟩));have HT:=hQ ht;clear h ht;go_enter func38,ntmps38;go_wp2
 go_loopg [5] (SizeOf.sizeOf t) (fun k _ wr=>LfL t w k wr)
 case atStart=>exact⟨t,v,xA _,HT.out,rfl,K2.out.1,K2.out.2,HL.out.keep H2.out,H2.out⟩
 case round =>
  obtain⟨x,u,hk,hx,hc,h0,h1,hu,hb⟩:=hrel;have HK:=hQ hk;have HX:=hQ hx;have HC:=hQ hc;have H0:=hQ h0;have H1:=hQ h1;have HU:=hQ hu;have HB:=hQ hb;have ek:=hu.kl.2.2.1;obtain⟨uk,ux,ula,ull,ulc,uka,ukl,ukc⟩:=u;simp only at ek;have u0:wr.cell? ⟨w.heap.size,0,none⟩=some (.int .i64 uk):=Qab h0 0 _ rfl;have u1:wr.cell? ⟨w.heap.size,1,none⟩=some (.string ux):=Qab h0 1 _ rfl;have u2:wr.cell? ⟨w.heap.size,2,none⟩=some (.slice ula ull ulc):=Qab h0 2 _ rfl;have u3:wr.cell? ⟨w.heap.size,3,none⟩=some (.slice uka ukl ukc):=Qab h0 3 _ rfl;have ul:=Qaa h0;have uf:=xL h0;have r0:wr.cell? ⟨w.heap.size+1,0,none⟩=some (.int .i64 0):=Qab h1 0 _ rfl;have r1:wr.cell? ⟨w.heap.size+1,1,none⟩=some (.string ⟨#[]⟩):=Qab h1 1 _ rfl;have r2:wr.cell? ⟨w.heap.size+1,2,none⟩=some (.slice none 0 0):=Qab h1 2 _ rfl;have r3:wr.cell? ⟨w.heap.size+1,3,none⟩=some (.slice none 0 0):=Qab h1 3 _ rfl;have rl:=Qaa h1;have rf:=xL h1;clear h0 h1 hk hx hc hb
  by_cases h8:uk=8
  ·subst h8
   rcases Qfu HX.out.1 HX.out.2 with⟨k8,k,hkk,hk1,hk2⟩|⟨k8,_,_⟩
   ·have hkj:x.kids[0]? = some k:=by rw[hkk];rfl
    have hkl:ukl=1:=by have:=hu.kl.1;rw[hkk]at this;exact this
    subst hkl;obtain⟨b,off,hka⟩:∃ b off,uka=some ⟨b,off,none⟩:=hu.addr.resolve_left (by rw[hkk];simp);subst hka;obtain⟨y,c0,c1,c2,c3,hy⟩:=hu.at rfl hkj;simp only[Nat.zero_mul,Nat.add_zero]at c0 c1 c2 c3;have cl:=xK wr _ c0;have HY:=hQ hy;have HKJ:=hQ hkj;have HK1:=hQ (show LsT k from⟨hk2,hk1⟩);have HCC:=hQ (Qfj k8 hkk).1;clear hu hkk hk1 hk2 hkj hy k8 ek;go_wp2
    go_roundg (SizeOf.sizeOf k)
    case measure=>have:=Qar HKJ.out;have:=HK.out;omega
    case rel=>exact⟨k,y,xA _,HK1.out,HC.out.trans HCC.out,Qf2 (w:=wr) y H0.out,(Qa3 (w:=wr) y (by omega)).trans H1.out,TrAt.move (w':=Qek wr w.heap.size y) (fun _ h=>h) (fun b hb _=>Qa3 y (by omega)) _ _ HY.out,HB.out.trans (Qb6 wr w.heap.size y)⟩
   ·exact absurd ek.symm k8
  ·have b8:=Qcr h8;have HE:=hQ (show Qbd t=x from HC.out.trans (Qfk (fun e=>h8 (ek.trans e))).1);clear hu ek h8;go_wp2;refine bodyPost_ret (v:=.agg #[.int .i64 uk,.string ux,.slice ula ull ulc,.slice uka ukl ukc]) (by simp[results,results38,go_sem, *]) rfl ?_;have e2:∀ b,b≠w.heap.size+1->(Qek wr (w.heap.size+1) ⟨uk,ux,ula,ull,ulc,uka,ukl,ukc⟩).heap[b]? = wr.heap[b]?:=fun b hn=>Qa3 ⟨uk,ux,ula,ull,ulc,uka,ukl,ukc⟩ hn
   have e4:=HB.out.trans ((Qb6 wr (w.heap.size+1) ⟨uk,ux,ula,ull,ulc,uka,ukl,ukc⟩).mono (Nat.le_succ _));refine⟨⟨uk,ux,ula,ull,ulc,uka,ukl,ukc⟩,rfl,?_,e4⟩;rw[HE.out];show TrAt (fun b=>b<w.heap.size) (Qek wr (w.heap.size+1) ⟨uk,ux,ula,ull,ulc,uka,ukl,ukc⟩) _ _
   exact TrAt.move (fun _ h=>h) (fun b hb _=>e2 b (by omega)) _ _ HU.out
theorem Qu5(w5:World)(a b c:Obj):(((w5.alloc a).alloc b).alloc c).heap[w5.heap.size]? = some a:=((Qcs ((w5.alloc a).alloc b) c).block _ (by rw[xI,xI];omega)).trans (Qdv w5 a b).1
theorem Qzk(w5:World)(a b c:Obj):(((w5.alloc a).alloc b).alloc c).heap[w5.heap.size+2]? = some c:=by
 have h:=xH ((w5.alloc a).alloc b) c;rw[xI,xI]at h;exact h
theorem Zmr{B:Nat}{S:Nat->Prop}{w w3 WS:World}{u:Tr}{n:Nat}{y:TV}(hS:∀ b,S b->b<w.heap.size)(hB:B=w.heap.size+2)(hw:w.heap.size+2<w3.heap.size)(hy:TrAt (fun b=>S b\/(w.heap.size+3<=b/\b<w3.heap.size)) w3 (Qcz n u) y)
  (hs:WS.heap.size=w3.heap.size) (hk:∀ b,b≠B->WS.heap[b]? = w3.heap[b]?):TrAt (fun b=>S b\/(w.heap.size<=b/\b<(WS.alloc (trO y)).heap.size)) (WS.alloc (trO y)) (Qcz (n+1) u) ⟨8,⟨#[]⟩,none,0,0,some ⟨w3.heap.size,0,none⟩,1,1⟩:=by
 have ha:=Qcs WS (trO y);have hnew:(WS.alloc (trO y)).heap[w3.heap.size]? = some (trO y):=by rw[<-hs];exact xH _ _
 have hsz:(WS.alloc (trO y)).heap.size=w3.heap.size+1:=by rw[xI,hs]
 show TrAt (fun b=>S b\/(w.heap.size<=b/\b<(WS.alloc (trO y)).heap.size)) (WS.alloc (trO y)) (.mk 8 ⟨#[]⟩ [] [Qcz n u]) _
 refine Qqs (us:=[y]) 8 ⟨#[]⟩ rfl (fun i a v ha' hv=>?_) hnew (.inr ⟨by omega,by omega⟩) 1 rfl
 match i,ha',hv with
 | 0,ha',hv =>
  injection ha' with ha';injection hv with hv;subst ha' hv;refine TrAt.move (fun b hb=>hb.imp id fun h=>⟨by omega,by omega⟩) (fun b hb hl=>(ha.block b (by omega)).trans (hk b ?_)) _ _ hy
  rcases hb with h | h
  ·have:=hS b h;omega
  ·omega
 | i+1,ha',_=>simp at ha'
theorem Zms(N:Nat):∀ (S S':Nat->Prop) (t u:Tr) (v z:TV) (w:World),SizeOf.sizeOf t<=N->TrAt S w t v->LsT t->TrAt S' w u z->(∀ b,S' b->b<w.heap.size) ->
  Calls prog 61 #[.agg #[.int .i64 v.kind,.string v.text,.slice v.la v.ll v.lc,.slice v.ka v.kl v.kc],.agg #[.int .i64 z.kind,.string z.text,.slice z.la z.ll z.lc,.slice z.ka z.kl z.kc]] w fun e w'=>∃ y:TV,e = .returned (.agg #[.int .i64 y.kind,.string y.text,.slice y.la y.ll y.lc,.slice y.ka y.kl y.kc])/\TrAt (fun b=>S' b\/(w.heap.size<=b/\b<w'.heap.size)) w' (Qcz (Qbn t) u) y/\Below w.heap.size w w':=by
 induction N with
 | zero=>intro S S' t u v z w h;have:=Qf3 t;omega
 | succ N ih =>
  intro S S' t u v z w hN h ht hu hS';have HB3:=hQ (Qgz (xC w.heap.size w) (trO v) (trO z) (trO ⟨0,⟨#[]⟩,none,0,0,none,0,0⟩));have K0:=hQ (Qu5 w (trO v) (trO z) (trO ⟨0,⟨#[]⟩,none,0,0,none,0,0⟩));have K1:=hQ (Qk5 w (trO v) (trO z) (trO ⟨0,⟨#[]⟩,none,0,0,none,0,0⟩));have K2:=hQ (Qzk w (trO v) (trO z) (trO ⟨0,⟨#[]⟩,none,0,0,none,0,0⟩));have HU:=hQ hu;have HS:=hQ hS';have ek:=h.kl.2.2.1;obtain⟨vk,vx,vla,vll,vlc,vka,vkl,vkc⟩:=v;obtain⟨zk,zx,zla,zll,zlc,zka,zkl,zkc⟩:=z;simp only at ek
  by_cases h8:vk=8
  ·subst h8
   rcases Qfu ht.1 ht.2 with⟨k8,k,hkk,hk1,hk2⟩|⟨k8,_,_⟩
   ·have hkj:t.kids[0]? = some k:=by rw[hkk];rfl
    have hkl:vkl=1:=by have:=h.kl.1;rw[hkk]at this;exact this
    subst hkl;obtain⟨b,off,hka⟩:∃ b off,vka=some ⟨b,off,none⟩:=h.addr.resolve_left (by rw[hkk];simp);subst hka;obtain⟨y,c0,c1,c2,c3,hy⟩:=h.at rfl hkj;simp only[Nat.zero_mul,Nat.add_zero]at c0 c1 c2 c3;have HLE:=hQ (Qfj k8 hkk).2;have HSZ:=hQ (Qhx w (trO ⟨8,vx,vla,vll,vlc,some ⟨b,off,none⟩,1,vkc⟩) (trO ⟨zk,zx,zla,zll,zlc,zka,zkl,zkc⟩) (trO ⟨0,⟨#[]⟩,none,0,0,none,0,0⟩));obtain⟨W3,hW3⟩:∃ W,W=((w.alloc (.cells #[.int .i64 8,.string vx,.slice vla vll vlc,.slice (some ⟨b,off,none⟩) 1 vkc] 25)).alloc (.cells #[.int .i64 zk,.string zx,.slice zla zll zlc,.slice zka zkl zkc] 25)).alloc (.cells #[.int .i64 0,.string ⟨#[]⟩,.slice none 0 0,.slice none 0 0] 25):=⟨_,rfl⟩;have HBW:=hQ (show Below w.heap.size w W3 by rw[hW3];exact HB3.out);have p1:W3.heap[w.heap.size]? = some (trO ⟨8,vx,vla,vll,vlc,some ⟨b,off,none⟩,1,vkc⟩):=by rw[hW3];exact K0.out
    have p2:W3.heap[w.heap.size+1]? = some (trO ⟨zk,zx,zla,zll,zlc,zka,zkl,zkc⟩):=by rw[hW3];exact K1.out
    have p3:W3.heap[w.heap.size+2]? = some (trO ⟨0,⟨#[]⟩,none,0,0,none,0,0⟩):=by rw[hW3];exact K2.out
    have psz:W3.heap.size=w.heap.size+3:=by rw[hW3];exact HSZ.out
    have cl0:=xK w _ c0;have d0:=Qaw HBW.out cl0 c0;have d1:=Qaw HBW.out cl0 c1;have d2:=Qaw HBW.out cl0 c2;have d3:=Qaw HBW.out cl0 c3;have cl:=xK W3 _ d0;have v3:W3.cell? ⟨w.heap.size,3,none⟩=some (.slice (some ⟨b,off,none⟩) 1 vkc):=Qab p1 3 _ rfl;have vl:=Qaa p1;have z0:W3.cell? ⟨w.heap.size+1,0,none⟩=some (.int .i64 zk):=Qab p2 0 _ rfl;have z1:W3.cell? ⟨w.heap.size+1,1,none⟩=some (.string zx):=Qab p2 1 _ rfl;have z2:W3.cell? ⟨w.heap.size+1,2,none⟩=some (.slice zla zll zlc):=Qab p2 2 _ rfl;have z3:W3.cell? ⟨w.heap.size+1,3,none⟩=some (.slice zka zkl zkc):=Qab p2 3 _ rfl;have zl:=Qaa p2;have HC:=hQ (fun w' (hb:Below W3.heap.size W3 w')=>ih S S' k u y ⟨zk,zx,zla,zll,zlc,zka,zkl,zkc⟩ w' (by have:=Qar hkj;omega) ((hy.keep HBW.out).keep hb) ⟨hk2,hk1⟩ ((hu.keep HBW.out).keep hb) (fun b h=>xE (hS' b h) (xQ HBW.out.size hb.size)));have P3:=hQ p3;have PSZ:=hQ psz;clear p1 p2 p3 psz HB3 K0 K1 K2 HSZ c0 c1 c2 c3 cl0 hy hu hS' ih hN h ht hkk hk1 hk2 hkj k8 ek;go_enter func61,ntmps61;go_upto_region 3 with fail
    rw[<-hW3];clear hW3
    go_still_tail 5,(by kernel_rfl)
    change wpList _ _ _ _ _ W3.drew
    have HBD:=hQ (show Below W3.heap.size W3 W3.drew from(xC _ _).drew);clear d0 d1 d2 d3 cl v3 vl z0 z1 z2 z3 zl;generalize W3.drew=wd at HBD |-;go_wp2_with (go_at_call 61;refine(HC.out _ HBD.out).mono ?_;rintro e w3⟨q,rfl,hq,hb⟩;have HQ:=hQ hq;have HB4:=hQ hb;have hp4:=(hb.block (w.heap.size+2) (xE (Qaa P3.out) HBD.out.size)).trans ((HBD.out.block _ (Qaa P3.out)).trans P3.out);have P4:=hQ hp4;have r0:w3.cell? ⟨w.heap.size+1+1,0,none⟩=some (.int .i64 0):=Qab hp4 0 _ rfl;have r1:w3.cell? ⟨w.heap.size+1+1,1,none⟩=some (.string ⟨#[]⟩):=Qab hp4 1 _ rfl;have r2:w3.cell? ⟨w.heap.size+1+1,2,none⟩=some (.slice none 0 0):=Qab hp4 2 _ rfl;have r3:w3.cell? ⟨w.heap.size+1+1,3,none⟩=some (.slice none 0 0):=Qab hp4 3 _ rfl;have rl:w.heap.size+1+1<w3.heap.size:=Qaa hp4;have rl2:=Nat.lt_of_succ_lt rl;have rl3:=Nat.lt_of_succ_lt rl2;have rf:∀ o,w3.frozen? ⟨w.heap.size+1+1,o,none⟩=false:=xL hp4;clear hq hb hp4)
    refine bodyPost_ret (v:=.agg #[.int .i64 8,.string ⟨#[]⟩,.slice none 0 0,.slice (some ⟨w3.heap.size,0,none⟩) 1 1]) (by simp[results,results61,go_sem, *]) rfl ?_;have hwd:w.heap.size+3<=wd.heap.size:=by have h1:=HBD.out.size;have h2:=PSZ.out;omega
    have hbs:=HBW.out.trans ((HBD.out.trans (HB4.out.mono HBD.out.size)).mono HBW.out.size);have hbt:=hbs.trans ((Qb6 w3 (w.heap.size+2) ⟨8,⟨#[]⟩,none,0,0,some ⟨w3.heap.size,0,none⟩,1,1⟩).mono (by omega));have he:=Zmr (B:=w.heap.size+2) (S:=S') (u:=u) (n:=Qbn k) (y:=q) (WS:=Qek w3 (w.heap.size+2) ⟨8,⟨#[]⟩,none,0,0,some ⟨w3.heap.size,0,none⟩,1,1⟩) HS.out rfl rl (TrAt.move (fun b hb=>hb.imp id fun h=>⟨by omega,h.2⟩) (fun _ _ _=>rfl) _ _ HQ.out) (Qb7 _ _ _) (fun b hb=>Qa3 _ hb);refine⟨⟨8,⟨#[]⟩,none,0,0,some ⟨w3.heap.size,0,none⟩,1,1⟩,rfl,?_,hbt.alloc hbt.size (trO q)⟩;rw[HLE.out];exact he
   ·exact absurd ek.symm k8
  ·have b8:=Qcr h8;have n8:=Zlc h8;have HE:=hQ (show Qcz (Qbn t) u=u by rw[(Qfk (fun e=>h8 (ek.trans e))).2];rfl);clear ih hN h ht hu hS' ek h8;go_enter func61,ntmps61;go_wp2;refine bodyPost_ret (v:=.agg #[.int .i64 zk,.string zx,.slice zla zll zlc,.slice zka zkl zkc]) (by simp[results,results61,go_sem, *]) rfl ?_;have hb3:=Qgz (xC w.heap.size w) (trO ⟨vk,vx,vla,vll,vlc,vka,vkl,vkc⟩) (trO ⟨zk,zx,zla,zll,zlc,zka,zkl,zkc⟩) (trO ⟨zk,zx,zla,zll,zlc,zka,zkl,zkc⟩);exact⟨⟨zk,zx,zla,zll,zlc,zka,zkl,zkc⟩,rfl,by rw[HE.out];exact TrAt.move (fun b hb=>.inl hb) (fun b _ hl=>hb3.block b hl) _ _ HU.out,hb3⟩
end Go.Proofs.YtfjpemdejoejbaaGreat
