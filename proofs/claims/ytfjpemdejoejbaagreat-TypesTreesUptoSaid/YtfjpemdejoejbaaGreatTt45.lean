/- Part 45 -/
import Derived.Test.YtfjpemdejoejbaaGreatTt44
set_option maxRecDepth 100000
set_option maxHeartbeats 4000000
namespace Go.Proofs.YtfjpemdejoejbaaGreat
open Go.RowKit Go.Shelf
theorem Qpq {ps:List Tr} (hz:∀ t∈ps,Qal t≤1000):(f:Nat)→(r:Int × Int × Bool)→(met:List (Int × Int))→(n:Nat)→(R:Int × Nat × Int)→goL ps f r met n=some R→R.2.1≤n+1000*f
 | 0,_,_,_,_,h=>by rw [goL] at h;cases h
 | f+1,r,met,n,R,h=>by
  have hb:∀ m d:Nat,Qa6 (Qjh ps m d)≤1000:=fun m d=>by
   have h1:=Qeb (Qjh ps m d);have h0:Qa6 noTr≤1000:=by unfold noTr;rw [Qa6,xN (by decide)];omega
   unfold Qjh Qg9 at h1 ⊢;cases ht:ps[m]? with
   | none=>exact h0
   | some t =>
    rw [ht] at h1;simp only [Option.getD_some] at h1 ⊢;cases hk:t.kids[d]? with
    | none=>exact h0
    | some k =>
     rw [hk] at h1;simp only [Option.getD_some] at h1 ⊢;cases ha:k.kids[0]? with
     | none=>exact h0
     | some a =>
      rw [ha] at h1;simp only [Option.getD_some] at h1 ⊢;have h2:=Qdn ha;have h3:=Qdn hk;have h4:=hz t (yA ht);omega
  have h3:=hb r.1.toNat r.2.1.toNat;rw [goL] at h
  split at h
  ·split at h
   ·injection h with h;rw [←h];exact xZ _
   ·split at h
    ·have h2:=Qpq hz f _ _ _ R h;omega
    ·injection h with h;rw [←h]
     show n+Qa6 (Qjh ps r.1.toNat r.2.1.toNat)≤_
     omega
  ·injection h with h;rw [←h];exact xZ _
theorem Qut {ps:List Tr} (hz:∀ t∈ps,Qal t≤1000) {m B:Nat} {t:Tr} (ht:Qal t≤B):(Qpb ps m t).2.1≤B+1000*(Qak ps+1):=by
 have h1:=Qeb t
 by_cases h9:(Qav t).kind=9
 ·have h2:=Qpq hz _ _ _ _ _ (Qnl (ps:=ps) (m:=m) h9);exact xQ h2 (Nat.add_le_add_right (xQ h1 ht) _)
 ·have e:Qpb ps m t=(0,Qa6 t,(Qav t).kind):=by unfold Qpb;rw [xN h9]
  rw [e];exact xQ (xQ h1 ht) (Nat.le_add_right _ _)
theorem Qrk {ps:List Tr} (hz:∀ t∈ps,Qal t≤1000) {m:Int} {t:Tr} {B:Nat} (ht:Qal t≤B):(Qbv ps m t).2.1≤B+1000*(Qak ps+1):=by
 have h:=Qut (m:=m.toNat) hz ht;unfold Qbv
 split
 ·exact xZ _
 ·exact h
def TreL (n:Nat) (k:Int) (w:World) (i:Value) (wr:World):Prop:=∃ (j:Nat) (u:TV),i = .int .i64 (j:Int)∧j≤n∧wr.heap[w.heap.size]? = some (flO n k)∧wr.heap[w.heap.size+1]? = some (trO ⟨0,⟨#[]⟩,none,0,0,none,0,0⟩)∧wr.heap[w.heap.size+2]? = some (trO u) ∧
 TrAt (fun b=>w.heap.size+3≤b∧b<wr.heap.size) wr (Qbp j (Qcw k)) u∧Below w.heap.size w wr
theorem Qyh {n j:Nat} {k:Int} {w wr WS:World} {u:TV} (hj:j<n) (h0:wr.heap[w.heap.size]? = some (flO n k)) (h1:wr.heap[w.heap.size+1]? = some (trO ⟨0,⟨#[]⟩,none,0,0,none,0,0⟩)) (l2:w.heap.size+2<wr.heap.size)
  (ht:TrAt (fun b=>w.heap.size+3≤b∧b<wr.heap.size) wr (Qbp j (Qcw k)) u) (hs:WS.heap.size=wr.heap.size) (hk:∀ b,b≠w.heap.size+2→WS.heap[b]? = wr.heap[b]?) (hx:WS.heap[w.heap.size+2]? = some (trO ⟨8,⟨#[]⟩,none,0,0,some ⟨wr.heap.size,0,none⟩,1,1⟩)) (hb:Below w.heap.size w WS) :
  TreL n k w (.int .i64 ((j+1:Nat):Int)) (WS.alloc (trO u)):=by
 have ha:=Qbq WS (trO u);have hkb:∀ b,b<wr.heap.size→b≠w.heap.size+2→(WS.alloc (trO u)).heap[b]? = wr.heap[b]?:=fun b hl hn=>(ha.block b (by omega)).trans (hk b hn)
 have hnew:(WS.alloc (trO u)).heap[wr.heap.size]? = some (trO u):=by rw [←hs];exact xH _ _
 have hsz:(WS.alloc (trO u)).heap.size=wr.heap.size+1:=by rw [xI,hs]
 refine ⟨j+1,⟨8,⟨#[]⟩,none,0,0,some ⟨wr.heap.size,0,none⟩,1,1⟩,rfl,hj,(hkb _ (Qab h0) (by omega)).trans h0,(hkb _ (Qab h1) (by omega)).trans h1,(ha.block _ (by omega)).trans hx,?_,hb.alloc hb.size _⟩
 show TrAt (fun b=>w.heap.size+3≤b∧b<(WS.alloc (trO u)).heap.size) (WS.alloc (trO u)) (.mk 8 ⟨#[]⟩ [] [Qbp j (Qcw k)]) ⟨8,⟨#[]⟩,none,0,0,some ⟨wr.heap.size,0,none⟩,1,1⟩
 refine Qla (us:=[u]) 8 ⟨#[]⟩ rfl (fun i a v ha hv=>?_) hnew ⟨by omega,by omega⟩ 1 rfl
 match i,ha,hv with
 | 0,ha,hv =>
  injection ha with ha;injection hv with hv;subst ha hv;exact TrAt.move (fun b hb=>⟨hb.1,by omega⟩) (fun b hb hl=>hkb b hl (by omega)) _ _ ht
 | i+1,ha,_=>simp at ha
theorem Qpr (n:Nat) (k:Int) (w:World) (hn:n≤100000000) :
  Calls Tryz.prog 28 #[.agg #[.int .i64 n,.int .i64 k]] w fun e w'=>∃ u:TV,e = .returned (.agg #[.int .i64 u.kind,.string u.text,.slice u.la u.ll u.lc,.slice u.ka u.kl u.kc])∧TrAt (fun b=>w.heap.size≤b∧b<w'.heap.size) w' (Qbp n (Qcw k)) u∧Below w.heap.size w w':=by
 have h3:=Qfk (xC w.heap.size w) (flO n k) (trO ⟨0,⟨#[]⟩,none,0,0,none,0,0⟩) (trO ⟨k,⟨#[]⟩,none,0,0,none,0,0⟩);have H3:=hQ h3;have K0:=hQ (xH w (flO n k));have k0:(w.alloc (flO n k)).cell? ⟨w.heap.size,0,none⟩=some (.int .i64 n):=Qaa K0.out 0 _ rfl;have k1:(w.alloc (flO n k)).cell? ⟨w.heap.size,1,none⟩=some (.int .i64 k):=Qaa K0.out 1 _ rfl;clear h3
 go_enter Tryz.func28,Tryz.ntmps28
 go_wp2
 clear k0 k1
 go_loopw [9] (fun i wr=>TreL n k w i wr) (fun i _=>n-(intOf i).toNat)
 case atStart =>
  refine ⟨0,⟨k,⟨#[]⟩,none,0,0,none,0,0⟩,rfl,xZ _,?_,Qi0 w _ _ _,?_,Qk9 _ _ _ _,H3.out⟩
  ·exact ((Qbq _ _).block _ (by rw [xI,xI];omega)).trans (Qch w _ _).1
  ·have h:=xH ((w.alloc (flO n k)).alloc (trO ⟨0,⟨#[]⟩,none,0,0,none,0,0⟩)) (trO ⟨k,⟨#[]⟩,none,0,0,none,0,0⟩);rw [xI,xI] at h;exact h
 case round =>
  obtain ⟨j,u,rfl,hj,h0,h1,h2,ht,hb⟩:=hrel;have H0:=hQ h0;have H1:=hQ h1;have H2:=hQ h2;have HT:=hQ ht;have HB:=hQ hb;obtain ⟨uk,ux,ula,ull,ulc,uka,ukl,ukc⟩:=u;have u0:wr.cell? ⟨w.heap.size+1+1,0,none⟩=some (.int .i64 uk):=Qaa h2 0 _ rfl;have u1:wr.cell? ⟨w.heap.size+1+1,1,none⟩=some (.string ux):=Qaa h2 1 _ rfl;have u2:wr.cell? ⟨w.heap.size+1+1,2,none⟩=some (.slice ula ull ulc):=Qaa h2 2 _ rfl;have u3:wr.cell? ⟨w.heap.size+1+1,3,none⟩=some (.slice uka ukl ukc):=Qaa h2 3 _ rfl;have ul:w.heap.size+1+1<wr.heap.size:=Qab h2;have uf:∀ o,wr.frozen? ⟨w.heap.size+1+1,o,none⟩=false:=xL h2;have r0:wr.cell? ⟨w.heap.size+1,0,none⟩=some (.int .i64 0):=Qaa h1 0 _ rfl;have r1:wr.cell? ⟨w.heap.size+1,1,none⟩=some (.string ⟨#[]⟩):=Qaa h1 1 _ rfl;have r2:wr.cell? ⟨w.heap.size+1,2,none⟩=some (.slice none 0 0):=Qaa h1 2 _ rfl;have r3:wr.cell? ⟨w.heap.size+1,3,none⟩=some (.slice none 0 0):=Qaa h1 3 _ rfl;have rl:=Qab h1;have rf:=xL h1;clear h0 h1 h2 ht hb
  by_cases hlt:j<n
  ·have i1:(j:Int)<(n:Int):=by omega
   have i2:(j:Int)+1≤100000001:=by omega
   have HLT:=hQ hlt
   go_wp2
   go_roundw
   case measure=>first | (simp [intOf];done) | (simp [intOf];omega)
   case rel =>
    obtain ⟨x8,hx8⟩:∃ x:TV,x=⟨8,⟨#[]⟩,none,0,0,some ⟨wr.heap.size,0,none⟩,1,1⟩:=⟨_,rfl⟩;have e1:=Qei wr (w.heap.size+2) x8;have e2:∀ b,b≠w.heap.size+2→(Qhu wr (w.heap.size+2) x8).heap[b]? = wr.heap[b]?:=fun b hn=>Qca x8 hn
    have e3:=Qg5 (w:=wr) x8 H2.out;have e4:=HB.out.trans ((Qb6 wr (w.heap.size+2) x8).mono (Nat.le_add_right _ _));obtain ⟨WS,hWS⟩:∃ W,W=Qhu wr (w.heap.size+2) x8:=⟨_,rfl⟩;rw [←hWS] at e1 e2 e3 e4;rw [hx8] at e3 hWS;have e5:=Qyh HLT.out H0.out H1.out (Qab H2.out) HT.out e1 e2 e3 e4;rw [hWS] at e5;exact e5
  ·obtain rfl:j=n:=by omega
   go_wp2
   refine bodyPost_ret (v:=.agg #[.int .i64 uk,.string ux,.slice ula ull ulc,.slice uka ukl ukc]) (by simp [results,Tryz.results28,go_sem, *]) rfl ?_;have e1:=Qei wr (w.heap.size+1) ⟨uk,ux,ula,ull,ulc,uka,ukl,ukc⟩;have e2:∀ b,b≠w.heap.size+1→(Qhu wr (w.heap.size+1) ⟨uk,ux,ula,ull,ulc,uka,ukl,ukc⟩).heap[b]? = wr.heap[b]?:=fun b hn=>Qca ⟨uk,ux,ula,ull,ulc,uka,ukl,ukc⟩ hn
   have e4:=HB.out.trans ((Qb6 wr (w.heap.size+1) ⟨uk,ux,ula,ull,ulc,uka,ukl,ukc⟩).mono (Nat.le_succ _));refine ⟨⟨uk,ux,ula,ull,ulc,uka,ukl,ukc⟩,rfl,?_,e4⟩
   show TrAt (fun b=>w.heap.size≤b∧b<(Qhu wr (w.heap.size+1) ⟨uk,ux,ula,ull,ulc,uka,ukl,ukc⟩).heap.size) (Qhu wr (w.heap.size+1) ⟨uk,ux,ula,ull,ulc,uka,ukl,ukc⟩) _ _
   exact TrAt.move (fun b hb=>⟨by omega,by omega⟩) (fun b hb _=>e2 b (by omega)) _ _ HT.out
def exT (ps:List Tr) (m:Int) (t:Tr):Tr:=if (Qbv ps m t).1=0 then Qbp (Qbv ps m t).2.1 (Qcw (Qbv ps m t).2.2) else noTr
theorem Ze1 {ps:List Tr} {m:Int} {t:Tr} (h:(Qbv ps m t).1≠0):exT ps m t=noTr:=by unfold exT;rw [xN h]
theorem Qny {ps:List Tr} {m:Int} {t:Tr} (h:(Qbv ps m t).1=0):exT ps m t=Qbp (Qbv ps m t).2.1 (Qcw (Qbv ps m t).2.2):=by unfold exT;rw [xO h]
theorem Quu (S S':Nat→Prop) (A:Option Addr) (c:Nat) (ps:List Tr) (m:Int) (t:Tr) (v:TV) (w:World) (hp:TrAt S w (Qap ps) ⟨0,⟨#[]⟩,none,0,0,A,ps.length,c⟩) (hf:Qe9 (Qap ps)=true) (hw:Qaz (Qap ps)=true)
  (hz:∀ t∈ps,Qal t≤1000) (hl:Qak ps≤90000) (ht:TrAt S' w t v) (hts:Qbb t=true) (htw:Qaz t=true) (htz:Qal t≤2000000) (hss:Qar t=Qaj t) :
  Calls Tryz.prog 8 #[.slice A ps.length c,.int .i64 m,.agg #[.int .i64 v.kind,.string v.text,.slice v.la v.ll v.lc,.slice v.ka v.kl v.kc]] w fun e w'=>∃ u:TV,e = .returned (.tuple #[.agg #[.int .i64 u.kind,.string u.text,.slice u.la u.ll u.lc,.slice u.ka u.kl u.kc],.int .i64 (Qbv ps m t).1])∧TrAt (fun b=>w.heap.size≤b∧b<w'.heap.size) w' (exT ps m t) u∧Below w.heap.size w w':=by
 obtain ⟨bx0,bx1⟩:=Qch w (trO v) (trO ⟨0,⟨#[]⟩,none,0,0,none,0,0⟩);have hb0:=Qc6 w (trO v) (trO ⟨0,⟨#[]⟩,none,0,0,none,0,0⟩);have HB0:=hQ hb0;have BX0:=hQ bx0;have BX1:=hQ bx1;have HC:=hQ (Qh2 S S' A c ps m t v _ (hp.keep hb0) hf hw hz hl (ht.keep hb0) hts htw htz hss);have HN:=hQ (show (Qbv ps m t).2.1≤100000000 from xQ (Qrk (m:=m) hz htz) (by omega));obtain ⟨R,hR⟩:∃ R,R=Qbv ps m t:=⟨_,rfl⟩;have HY:=hQ (show R.1=0→exT ps m t=Qbp R.2.1 (Qcw R.2.2) from by rw [hR];exact Qny);have HNO:=hQ (show R.1≠0→exT ps m t=noTr from by rw [hR];exact Ze1);rw [←hR] at HC HN ⊢;clear hp hf hw hz hl ht hts htw htz hss hb0 bx0 bx1 hR;obtain ⟨vk,vx,vla,vll,vlc,vka,vkl,vkc⟩:=v;obtain ⟨E,N,K⟩:=R
 by_cases hE:E=0
 ·subst hE;have HEX:=hQ (HY.out rfl);have HCT:=hQ (fun w'=>Qpr N K w' HN.out);clear HY HNO
  go_enter Tryz.func8,Tryz.ntmps8
  go_wp2_with (first
   | (go_at_call 27;refine HC.out.mono ?_;rintro e w1 ⟨rfl,hb⟩;have HB1:=hQ hb;have HR1:=hQ ((hb.block (w.heap.size+1) (by rw [xI,xI];omega)).trans BX1.out);have HB2:=hQ (hb.alloc hb.size (flO N K));clear hb)
   | (go_at_call 28;refine (HCT.out _).mono ?_;rintro e w3 ⟨u,rfl,hu,hb⟩;have HU:=hQ hu;have HB3:=hQ hb;have HR3:=hQ ((hb.block (w.heap.size+1) (by rw [xI];have:=Qab HR1.out;omega)).trans (((Qbq w1 (flO N K)).block _ (Qab HR1.out)).trans HR1.out));have r0:w3.cell? ⟨w.heap.size+1,0,none⟩=some (.int .i64 0):=Qaa HR3.out 0 _ rfl;have r1:w3.cell? ⟨w.heap.size+1,1,none⟩=some (.string ⟨#[]⟩):=Qaa HR3.out 1 _ rfl;have r2:w3.cell? ⟨w.heap.size+1,2,none⟩=some (.slice none 0 0):=Qaa HR3.out 2 _ rfl;have r3:w3.cell? ⟨w.heap.size+1,3,none⟩=some (.slice none 0 0):=Qaa HR3.out 3 _ rfl;have rl:=Qab HR3.out;have rf:=xL HR3.out;clear hu hb))
  obtain ⟨uk,ux,ula,ull,ulc,uka,ukl,ukc⟩:=u;refine bodyPost_ret (v:=.tuple #[.agg #[.int .i64 uk,.string ux,.slice ula ull ulc,.slice uka ukl ukc],.int .i64 0]) (by simp [results,Tryz.results8,go_sem, *]) rfl ?_;have e1:=Qei w3 (w.heap.size+1) ⟨uk,ux,ula,ull,ulc,uka,ukl,ukc⟩;have e2:∀ b,b≠w.heap.size+1→(Qhu w3 (w.heap.size+1) ⟨uk,ux,ula,ull,ulc,uka,ukl,ukc⟩).heap[b]? = w3.heap[b]?:=fun b hn=>Qca ⟨uk,ux,ula,ull,ulc,uka,ukl,ukc⟩ hn
  have hlt1:=Qab HR1.out;have hB:=HB0.out.trans ((HB2.out.trans (HB3.out.mono (by have:=HB2.out.size;exact this))).mono HB0.out.size);have e4:=hB.trans ((Qb6 w3 (w.heap.size+1) ⟨uk,ux,ula,ull,ulc,uka,ukl,ukc⟩).mono (Nat.le_succ _));refine ⟨⟨uk,ux,ula,ull,ulc,uka,ukl,ukc⟩,rfl,?_,e4⟩;rw [HEX.out]
  show TrAt (fun b=>w.heap.size≤b∧b<(Qhu w3 (w.heap.size+1) ⟨uk,ux,ula,ull,ulc,uka,ukl,ukc⟩).heap.size) (Qhu w3 (w.heap.size+1) ⟨uk,ux,ula,ull,ulc,uka,ukl,ukc⟩) _ _
  have hsa:w1.heap.size≤(w1.alloc (.cells #[.int .i64 N,.int .i64 K] 52)).heap.size:=by rw [xI];omega
  have h0:w.heap.size+1<w1.heap.size:=hlt1;have hu:=HU.out
  generalize (w1.alloc (.cells #[.int .i64 N,.int .i64 K] 52)).heap.size=q at hsa hu
  exact TrAt.move (fun b hb=>⟨by have:=hb.1;omega,by have:=hb.2;omega⟩) (fun b hb _=>e2 b (by have:=hb.1;omega)) _ _ hu
 ·have HEX:=hQ (HNO.out hE);have nE:=Zdw hE;have nE2:=Qcm hE;clear HY HNO
  go_enter Tryz.func8,Tryz.ntmps8
  go_wp2_with (go_at_call 27;refine HC.out.mono ?_;rintro e w1 ⟨rfl,hb⟩;have HB1:=hQ hb;have HR1:=hQ ((hb.block (w.heap.size+1) (by rw [xI,xI];omega)).trans BX1.out);have r0:w1.cell? ⟨w.heap.size+1,0,none⟩=some (.int .i64 0):=Qaa HR1.out 0 _ rfl;have r1:w1.cell? ⟨w.heap.size+1,1,none⟩=some (.string ⟨#[]⟩):=Qaa HR1.out 1 _ rfl;have r2:w1.cell? ⟨w.heap.size+1,2,none⟩=some (.slice none 0 0):=Qaa HR1.out 2 _ rfl;have r3:w1.cell? ⟨w.heap.size+1,3,none⟩=some (.slice none 0 0):=Qaa HR1.out 3 _ rfl;have rl:=Qab HR1.out;have rl2:=Nat.lt_of_succ_lt rl;have rf:=xL HR1.out;clear hb)
  refine bodyPost_ret (v:=.tuple #[.agg #[.int .i64 0,.string ⟨#[]⟩,.slice none 0 0,.slice none 0 0],.int .i64 E]) (by simp [results,Tryz.results8,go_sem, *]) rfl ?_;have hB:=HB0.out.trans (HB1.out.mono HB0.out.size);have e4:=hB.trans ((Qb6 w1 (w.heap.size+1) ⟨0,⟨#[]⟩,none,0,0,none,0,0⟩).mono (Nat.le_succ _));refine ⟨⟨0,⟨#[]⟩,none,0,0,none,0,0⟩,rfl,?_,e4.alloc e4.size _⟩;rw [HEX.out];exact Qkr _ _
theorem Qjo (S S':Nat→Prop) (A:Option Addr) (c:Nat) (ps:List Tr) (m:Int) (t:Tr) (v:TV) (w:World) (hp:TrAt S w (Qap ps) ⟨0,⟨#[]⟩,none,0,0,A,ps.length,c⟩) (hf:Qe9 (Qap ps)=true) (hw:Qaz (Qap ps)=true)
  (hz:∀ t∈ps,Qal t≤1000) (hl:Qak ps≤90000) (ht:TrAt S' w t v) (hts:Qbb t=true) (htw:Qaz t=true) (htz:Qal t≤1000) :
  Calls Tryz.prog 8 #[.slice A ps.length c,.int .i64 m,.agg #[.int .i64 v.kind,.string v.text,.slice v.la v.ll v.lc,.slice v.ka v.kl v.kc]] w fun e w'=>∃ u:TV,e = .returned (.tuple #[.agg #[.int .i64 u.kind,.string u.text,.slice u.la u.ll u.lc,.slice u.ka u.kl u.kc],.int .i64 (Qbv ps m t).1])∧TrAt (fun b=>w.heap.size≤b∧b<w'.heap.size) w' (exT ps m t) u∧Below w.heap.size w w':=Quu S S' A c ps m t v w hp hf hw hz hl ht hts htw (by omega) (Qbl _ t (xA _) htz)
theorem Zbc:Tryz.prog.underlying 52=some (.struct (Tryz.prog.fieldsOf 52)):=by kernel_rfl
theorem Zbd:Tryz.prog.stoodInHeld 52=false:=by kernel_rfl
theorem Zbe:Tryz.prog.eqGuardType Tryz.prog.depth 52=false:=by kernel_rfl
theorem Zbf (a b c d:Int) (w:World):(Op.equalIn 10000 52 (.agg #[.int .i64 a,.int .i64 b]) (.agg #[.int .i64 c,.int .i64 d])).run Tryz.prog w = .ok (a==c && b==d) w:=by
 rw [run_equalIn_agg w 9999 52 _ _ Zbc Zbd];simp only [Program.fieldsOf,Tryz.underlying52,Op.eqFields,Sem.run_bind,Sem.run_ite,Sem.run_pure];have n1:("lists"≠"_")=True:=by simp
 have n2:("kind"≠"_")=True:=by simp
 simp only [n1,n2,if_true,Zdg,Zdh,Result.andThen_ok,run_equalIn_int _ 9998 3 _ _ _ _ Tryz.underlying3];cases h1:(a==c) <;> cases h2:(b==d) <;> simp
theorem Ze2 (a b c d:Int) (w:World):(binOp .eql 52 (.agg #[.int .i64 a,.int .i64 b]) (.agg #[.int .i64 c,.int .i64 d])).run Tryz.prog w = .ok (.bool (a==c && b==d)) w:=by
 rw [run_eql_struct,Zbf];rfl
def eqG (ps:List Tr) (m:Int) (a:Tr) (n:Int) (b:Tr):Bool:=(Qbv ps m a).1==0 && ((Qbv ps n b).1==0 && (((Qbv ps m a).2.1:Int)==((Qbv ps n b).2.1:Int) && (Qbv ps m a).2.2==(Qbv ps n b).2.2))
theorem Qyi (S S1 S2:Nat→Prop) (A:Option Addr) (c:Nat) (ps:List Tr) (m n:Int) (a b:Tr) (u v:TV) (w:World) (hp:TrAt S w (Qap ps) ⟨0,⟨#[]⟩,none,0,0,A,ps.length,c⟩) (hf:Qe9 (Qap ps)=true) (hw:Qaz (Qap ps)=true)
  (hz:∀ t∈ps,Qal t≤1000) (hl:Qak ps≤90000) (ha:TrAt S1 w a u) (has:Qbb a=true) (haw:Qaz a=true) (haz:Qal a≤2000000) (hsa:Qar a=Qaj a) (hb:TrAt S2 w b v) (hbs:Qbb b=true) (hbw:Qaz b=true) (hbz:Qal b≤2000000) (hsb:Qar b=Qaj b) :
  Calls Tryz.prog 13 #[.slice A ps.length c,.int .i64 m,.agg #[.int .i64 u.kind,.string u.text,.slice u.la u.ll u.lc,.slice u.ka u.kl u.kc],.int .i64 n,.agg #[.int .i64 v.kind,.string v.text,.slice v.la v.ll v.lc,.slice v.ka v.kl v.kc]] w fun e w'=>e = .returned (.bool (eqG ps m a n b))∧Below w.heap.size w w':=by
 obtain ⟨bx0,bx1⟩:=Qch w (trO u) (trO v);have hb0:=Qc6 w (trO u) (trO v);have HB0:=hQ hb0;have BX1:=hQ bx1;have HC1:=hQ (Qh2 S S1 A c ps m a u _ (hp.keep hb0) hf hw hz hl (ha.keep hb0) has haw haz hsa);have HC2:=hQ (fun w' (hbw':Below w.heap.size w w')=>Qh2 S S2 A c ps n b v w' (hp.keep hbw') hf hw hz hl (hb.keep hbw') hbs hbw hbz hsb);have HV:=hQ (show eqG ps m a n b=((Qbv ps m a).1==0 && ((Qbv ps n b).1==0 && (((Qbv ps m a).2.1:Int)==((Qbv ps n b).2.1:Int) && (Qbv ps m a).2.2==(Qbv ps n b).2.2))) from rfl);obtain ⟨R,hR⟩:∃ R,R=Qbv ps m a:=⟨_,rfl⟩;obtain ⟨Q,hQ⟩:∃ Q,Q=Qbv ps n b:=⟨_,rfl⟩;rw [←hR] at HC1 HV;rw [←hQ] at HC2 HV;rw [HV.out];clear hp hf hw hz hl ha has haw haz hb hbs hbw hbz hsa hsb hb0 bx0 bx1 hR hQ HV;obtain ⟨uk,ux,ula,ull,ulc,uka,ukl,ukc⟩:=u;obtain ⟨vk,vx,vla,vll,vlc,vka,vkl,vkc⟩:=v;obtain ⟨E,N,K⟩:=R;obtain ⟨F,M,L⟩:=Q;simp only
 by_cases hE:E=0
 ·subst hE;have hG:=fun (w:World) (p q:Operand)=>run_eqGuard_agg w .eql 52 p q #[.int .i64 (N:Int),.int .i64 K] #[.int .i64 (M:Int),.int .i64 L] Zbe
  have hN:=fun (w:World)=>Ze2 (N:Int) K (M:Int) L w
  by_cases hF:F=0
  ·subst hF
   go_enter Tryz.func13,Tryz.ntmps13
   go_wp2_with (first
    | (go_at_call 27;refine HC1.out.mono ?_;rintro e w1 ⟨rfl,hb⟩;have HB1:=hQ (HB0.out.trans (hb.mono HB0.out.size));have HR1:=hQ ((hb.block (w.heap.size+1) (by rw [xI,xI];omega)).trans BX1.out);have r0:w1.cell? ⟨w.heap.size+1,0,none⟩=some (.int .i64 vk):=Qaa HR1.out 0 _ rfl;have r1:w1.cell? ⟨w.heap.size+1,1,none⟩=some (.string vx):=Qaa HR1.out 1 _ rfl;have r2:w1.cell? ⟨w.heap.size+1,2,none⟩=some (.slice vla vll vlc):=Qaa HR1.out 2 _ rfl;have r3:w1.cell? ⟨w.heap.size+1,3,none⟩=some (.slice vka vkl vkc):=Qaa HR1.out 3 _ rfl;have rl:=Qab HR1.out;have rl2:=Nat.lt_of_succ_lt rl;have HB2:=hQ (HB1.out.alloc HB1.out.size (flO N K));clear hb HC1)
    | (go_at_call 27;refine (HC2.out _ HB2.out).mono ?_;rintro e w3 ⟨rfl,hb⟩;have HB3:=hQ (HB2.out.trans (hb.mono HB2.out.size));have HF3:=hQ ((hb.block w1.heap.size (by rw [xI];omega)).trans (xH w1 (flO N K)));have x0:w3.cell? ⟨w1.heap.size,0,none⟩=some (.int .i64 N):=Qaa HF3.out 0 _ rfl;have x1:w3.cell? ⟨w1.heap.size,1,none⟩=some (.int .i64 K):=Qaa HF3.out 1 _ rfl;have xl:=Qab HF3.out;clear hb r0 r1 r2 r3 rl rl2))
   go_ret
   exact ⟨rfl,HB3.out.alloc HB3.out.size _⟩
  ·have nF:=Qcm hF;rw [nF]
   go_enter Tryz.func13,Tryz.ntmps13
   go_wp2_with (first
    | (go_at_call 27;refine HC1.out.mono ?_;rintro e w1 ⟨rfl,hb⟩;have HB1:=hQ (HB0.out.trans (hb.mono HB0.out.size));have HR1:=hQ ((hb.block (w.heap.size+1) (by rw [xI,xI];omega)).trans BX1.out);have r0:w1.cell? ⟨w.heap.size+1,0,none⟩=some (.int .i64 vk):=Qaa HR1.out 0 _ rfl;have r1:w1.cell? ⟨w.heap.size+1,1,none⟩=some (.string vx):=Qaa HR1.out 1 _ rfl;have r2:w1.cell? ⟨w.heap.size+1,2,none⟩=some (.slice vla vll vlc):=Qaa HR1.out 2 _ rfl;have r3:w1.cell? ⟨w.heap.size+1,3,none⟩=some (.slice vka vkl vkc):=Qaa HR1.out 3 _ rfl;have rl:=Qab HR1.out;have rl2:=Nat.lt_of_succ_lt rl;have HB2:=hQ (HB1.out.alloc HB1.out.size (flO N K));clear hb HC1)
    | (go_at_call 27;refine (HC2.out _ HB2.out).mono ?_;rintro e w3 ⟨rfl,hb⟩;have HB3:=hQ (HB2.out.trans (hb.mono HB2.out.size));have HF3:=hQ ((hb.block w1.heap.size (by rw [xI];omega)).trans (xH w1 (flO N K)));have x0:w3.cell? ⟨w1.heap.size,0,none⟩=some (.int .i64 N):=Qaa HF3.out 0 _ rfl;have x1:w3.cell? ⟨w1.heap.size,1,none⟩=some (.int .i64 K):=Qaa HF3.out 1 _ rfl;have xl:=Qab HF3.out;clear hb r0 r1 r2 r3 rl rl2))
   go_ret
   exact ⟨rfl,HB3.out.alloc HB3.out.size _⟩
 ·have nE:=Zdw hE;have nE2:=Qcm hE;rw [nE2]
  go_enter Tryz.func13,Tryz.ntmps13
  go_wp2_with (go_at_call 27;refine HC1.out.mono ?_;rintro e w1 ⟨rfl,hb⟩;have HB1:=hQ (HB0.out.trans (hb.mono HB0.out.size));clear hb)
  go_ret
  exact ⟨rfl,HB1.out.alloc HB1.out.size _⟩
theorem Qyj (S S1 S2:Nat→Prop) (A:Option Addr) (c:Nat) (ps:List Tr) (m n:Int) (a b:Tr) (u v:TV) (w:World) (hp:TrAt S w (Qap ps) ⟨0,⟨#[]⟩,none,0,0,A,ps.length,c⟩) (hf:Qe9 (Qap ps)=true) (hw:Qaz (Qap ps)=true)
  (hz:∀ t∈ps,Qal t≤1000) (hl:Qak ps≤90000) (ha:TrAt S1 w a u) (has:Qbb a=true) (haw:Qaz a=true) (haz:Qal a≤1000) (hb:TrAt S2 w b v) (hbs:Qbb b=true) (hbw:Qaz b=true) (hbz:Qal b≤1000) :
  Calls Tryz.prog 13 #[.slice A ps.length c,.int .i64 m,.agg #[.int .i64 u.kind,.string u.text,.slice u.la u.ll u.lc,.slice u.ka u.kl u.kc],.int .i64 n,.agg #[.int .i64 v.kind,.string v.text,.slice v.la v.ll v.lc,.slice v.ka v.kl v.kc]] w fun e w'=>e = .returned (.bool (eqG ps m a n b))∧Below w.heap.size w w':=Qyi S S1 S2 A c ps m n a b u v w hp hf hw hz hl ha has haw (by omega) (Qbl _ a (xA _) haz) hb hbs hbw (by omega) (Qbl _ b (xA _) hbz)
end Go.Proofs.YtfjpemdejoejbaaGreat
