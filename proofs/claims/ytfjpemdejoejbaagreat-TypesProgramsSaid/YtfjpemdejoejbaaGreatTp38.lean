/- Part 38 -/
import Derived.Test.YtfjpemdejoejbaaGreatTp36
import Derived.Test.YtfjpemdejoejbaaGreatTp34
import Derived.Test.YtfjpemdejoejbaaGreatTp37
set_option maxRecDepth 100000
set_option maxHeartbeats 4000000
namespace Go.Proofs.YtfjpemdejoejbaaGreat
open Go.Proofs.Tryz Go.RowKit
theorem Zeh{l:List yD}{y:yD}(h:y∈l):y.size<=szB l:=by
 induction l with
 | nil=>simp at h
 | cons a r ih =>
  rw[szB]
  rcases List.mem_cons.1 h with rfl | h
  ·omega
  ·have:=ih h;omega
mutual
theorem Qk8:(t:Tr)->Qt6 t<=1048576->Qbg t=true
 | .mk _ x ls ks,h=>by
  rw[Qt6]at h;rw[Qbg,Qpr ks (by omega),xS (by unfold maxLen;omega),Bool.true_and,Bool.and_true,List.all_eq_true];intro y hy;have:=Zeh hy
  exact xS (by unfold maxLen;omega)
theorem Qpr:(l:List Tr)->Qx3 l<=1048576->Qjp l=true
 | [],_=>by rw[Qjp]
 | t :: r,h=>by
  rw[Qx3]at h;rw[Qjp,Qk8 t (by omega),Qpr r (by omega)];rfl
end
def Qu2:List (List Qbt)->Nat
 | []=>0
 | p :: r=>p.length+1+Qu2 r
theorem Qps:(l:List (List Qbt))->(m:Nat)->Qu2 (l.take m)+Qu2 (l.drop m)=Qu2 l
 | [],m=>by simp[Qu2]
 | p :: r,0=>by simp[Qu2]
 | p :: r,m+1=>by
  have:=Qps r m
  rw[List.take_succ_cons,List.drop_succ_cons,Qu2,Qu2];omega
theorem Qmg(co:Bool)(cs:List yD):(l:List (List Qbt))->(i:Nat)->(Qbh co cs i l).length<=Qu2 l
 | [],i=>by rw[Qbh,Qu2];exact xA _
 | p :: r,i=>by
  have:=Qmg co cs r (i+1)
  rw[Qbh,Qu2,xB,xB];have:(if 0<i/\co=true then [((cs[i-1]?).getD ⟨#[]⟩,(⟨#[44]⟩:yD))] else []).length<=1:=by split <;> simp
  omega
theorem Qj6(n:Int)(tx:yD)(cs:List yD):(l:List Part)->(ls:List yD)->(ks:List (List Qbt))->(Qb0 n tx cs l ls ks).length<=Qcn l+Qu2 ks
 | [],ls,ks=>by rw[Qb0];simp
 | x :: r,ls,ks=>by
  rw[Qb0]
  by_cases h:x.kids≠0
  ·have h1:=Qmg x.commas cs (ks.take (Qb9 x n).toNat) 0;have h2:=Qj6 n tx cs r ls (ks.drop (Qb9 x n).toNat);have h3:=Qps ks (Qb9 x n).toNat;have h4:Qcn r<=Qcn (x :: r):=by rw[Qcn];omega
   rw[xO h,xB];omega
  ·have h2:=Qj6 n tx cs r (ls.drop 1) ks;have h4:Qcn (x :: r)=1+Qcn r:=by rw[Qcn];simp only[ne_eq,Decidable.not_not]at h;simp[h] <;> omega
   rw[xN h,xD];omega
theorem Qzh(k:Int):Qcn (Qae k)<=6:=by
 by_cases h0:k<=0\/23<=k
 ·rw[Qd0 h0];exact xZ _
 ·rcases Qix h0 with rfl | rfl | rfl | rfl | rfl | rfl | rfl | rfl | rfl | rfl | rfl | rfl | rfl | rfl | rfl | rfl | rfl | rfl | rfl | rfl | rfl | rfl <;> decide
mutual
theorem Qpt:(t:Tr)->(Qaf t).length+1<=7*Qai t
 | .mk k x ls ks=>by
  have h1:=Qj6 (Qca (Qae k) ks.length).1 x (ls.drop (Qcn (Qae k))) (Qae k) ls (Qgy ks);have h2:=Qzh k;have h3:=Qoa ks;rw[Qaf,Qai];omega
theorem Qoa:(l:List Tr)->Qu2 (Qgy l)<=7*Qal l
 | []=>by rw[Qgy,Qu2];exact xZ _
 | t :: r=>by
  have:=Qpt t
  have:=Qoa r
  rw[Qgy,Qu2,Qal];omega
end
def okP(M:Nat)(p:Qbt):Prop:=p.1.size<=M/\p.2.size<=M
theorem Zei{M:Nat}{l:List yD}(h:∀ y∈l,y.size<=M)(i:Nat):((l[i]?).getD ⟨#[]⟩).size<=M:=by
 cases hi:l[i]? with
 | none=>exact xZ _
 | some y=>exact h y (yA hi)
theorem Qob{M:Nat}(hM:1<=M)(co:Bool){cs:List yD}(hc:∀ y∈cs,y.size<=M):(l:List (List Qbt))->(i:Nat)->(∀ q∈l,∀ p∈q,okP M p)->∀ p∈Qbh co cs i l,okP M p
 | [],i,_,p,hp=>by rw[Qbh]at hp;simp at hp
 | a :: r,i,h,p,hp=>by
  rw[Qbh]at hp
  rcases List.mem_append.1 hp with hp | hp
  ·rcases List.mem_append.1 hp with hp | hp
   ·split at hp
    ·simp at hp
     subst hp;exact⟨Zei hc _,hM⟩
    ·simp at hp
   ·exact h a (by simp) p hp
  ·exact Qob hM co hc r (i+1) (fun q hq=>h q (by simp[hq])) p hp
theorem Ql2{M:Nat}(hM:1<=M)(n:Int){tx:yD}(ht:tx.size<=M){cs:List yD}(hc:∀ y∈cs,y.size<=M):(l:List Part)->(ls:List yD)->(ks:List (List Qbt))->(∀ x∈l,x.word.size<=M)->(∀ y∈ls,y.size<=M)->(∀ q∈ks,∀ p∈q,okP M p)->∀ p∈Qb0 n tx cs l ls ks,okP M p
 | [],ls,ks,_,_,_,p,hp=>by rw[Qb0]at hp;simp at hp
 | x :: r,ls,ks,hl,hs,hk,p,hp=>by
  rw[Qb0]at hp
  by_cases h:x.kids≠0
  ·rw[xO h]at hp
   rcases List.mem_append.1 hp with hp | hp
   ·exact Qob hM x.commas hc _ 0 (fun q hq=>hk q (List.mem_of_mem_take hq)) p hp
   ·exact Ql2 hM n ht hc r ls _ (fun y hy=>hl y (by simp[hy])) hs (fun q hq=>hk q (List.mem_of_mem_drop hq)) p hp
  ·rw[xN h]at hp
   rcases List.mem_cons.1 hp with rfl | hp
   ·refine⟨Zei hs _,?_⟩;show(if x.nm≠0 then tx else x.word).size<=M
    split
    ·exact ht
    ·exact hl x (by simp)
   ·exact Ql2 hM n ht hc r _ ks (fun y hy=>hl y (by simp[hy])) (fun y hy=>hs y (List.mem_of_mem_drop hy)) hk p hp
theorem Zej(k:Int):∀ x∈Qae k,x.word.size<=6:=by
 by_cases h0:k<=0\/23<=k
 ·rw[Qd0 h0];intro x hx;simp at hx
 ·rcases Qix h0 with rfl | rfl | rfl | rfl | rfl | rfl | rfl | rfl | rfl | rfl | rfl | rfl | rfl | rfl | rfl | rfl | rfl | rfl | rfl | rfl | rfl | rfl <;> decide
mutual
theorem Qs1{M:Nat}(hM:6<=M):(t:Tr)->Qt6 t<=M->∀ p∈Qaf t,okP M p
 | .mk k x ls ks,h,p,hp=>by
  rw[Qt6]at h;rw[Qaf]at hp;have hls:∀ y∈ls,y.size<=M:=fun y hy=>by have:=Zeh hy;omega
  exact Ql2 (by omega) _ (by omega) (fun y hy=>hls y (List.mem_of_mem_drop hy)) _ _ _ (fun y hy=>xQ (Zej k y hy) hM) hls (Qpu hM ks (by omega)) p hp
theorem Qpu{M:Nat}(hM:6<=M):(l:List Tr)->Qx3 l<=M->∀ q∈Qgy l,∀ p∈q,okP M p
 | [],_,q,hq=>by rw[Qgy]at hq;simp at hq
 | t :: r,h,q,hq=>by
  rw[Qx3]at h;rw[Qgy]at hq
  rcases List.mem_cons.1 hq with rfl | hq
  ·exact Qs1 hM t (by omega)
  ·exact Qpu hM r (by omega) q hq
end
theorem Qwt{M:Nat}:(ps:List Qbt)->(∀ p∈ps,okP M p)->Qgx ps<=ps.length*(2*M+1)
 | [],_=>by rw[Qgx];exact xZ _
 | p :: r,h=>by
  have h1:=Qwt r (fun q hq=>h q (by simp[hq]));have h2:=h p (by simp);unfold okP at h2;rw[Qgx,xD,Nat.add_mul,Nat.one_mul];omega
theorem Qpv{t:Tr}(hz:Qai t<=1000):(Qaf t).length<=7000:=by have:=Qpt t;omega
theorem Qu3{t:Tr}(hz:Qai t<=1000)(hc:Qt6 t<=1048576):Qgx (Qaf t)<=10000000000000:=by
 have h1:=Qwt (M:=1048576) (Qaf t) (Qs1 (by decide) t hc);have h2:=Qpv hz;have h3:(Qaf t).length*(2*1048576+1)<=7000*(2*1048576+1):=Nat.mul_le_mul_right _ h2;omega
end Go.Proofs.YtfjpemdejoejbaaGreat
namespace Go.Proofs.YtfjpemdejoejbaaGreat
open Go.Proofs.Tryz Go.RowKit Go.Shelf
def ArrQ(n:Nat)(k:Int)(w:World)(e:Ending)(w':World):Prop:=∃ (t':Tr) (u:TV),e = .returned (.agg #[.int .i64 u.kind,.string u.text,.slice u.la u.ll u.lc,.slice u.ka u.kl u.kc])/\TrAt (fun b=>w.heap.size<=b/\b<w'.heap.size) w' t' u/\Qai t'<=n/\Qf6 t'=true/\Below w.heap.size w w'/\(t'.kind=k\/t'.kind=0)
theorem Zkz(S:Nat->Prop)(t:Tr)(v:TV)(w:World)(h:TrAt S w t v)(hti:Qf6 t=true)(hsz:Qai t<=1000) :
  Calls prog 67 #[.agg #[.int .i64 v.kind,.string v.text,.slice v.la v.ll v.lc,.slice v.ka v.kl v.kc]] w (ArrQ (Qai t) t.kind w):=by
 have HTI:=hQ hti;have HSZ:=hQ hsz;have HW:=hQ (Qk8 t (by have:=Qmu t hti;omega));have HW0:=hQ (((xC w.heap.size w).alloc (xA _) (trO v)).alloc (by rw[xI];omega) (.cells #[.int .i64 0,.string ⟨#[]⟩,.slice none 0 0,.slice none 0 0] 25));have HT:=hQ (TrAt.keep (TrAt.low t v h) HW0.out);have HX:=hQ (show((w.alloc (trO v)).alloc (.cells #[.int .i64 0,.string ⟨#[]⟩,.slice none 0 0,.slice none 0 0] 25)).heap[w.heap.size]? = some (trO v) from(((xC (w.alloc (trO v)).heap.size _).alloc (xA _) _).block w.heap.size (by simp)).trans (xH w _));have HR:=hQ (show((w.alloc (trO v)).alloc (.cells #[.int .i64 0,.string ⟨#[]⟩,.slice none 0 0,.slice none 0 0] 25)).heap[w.heap.size+1]? = some (.cells #[.int .i64 0,.string ⟨#[]⟩,.slice none 0 0,.slice none 0 0] 25 (0,0)) from by rw[<-xI w (trO v)];exact xH _ _);have HS1:=hQ (show 1<=Qai t from by rw[Qa5];omega);clear h hti hsz;cases hs:Qa2 t with
 | false =>
  go_enter func67,ntmps67;go_wp2_with fail;go_at_call 31;refine(Qft _ (fun k=>k<w.heap.size) t v _ (xA _) HT.out HSZ.out HW.out).mono ?_;rw[hs];rintro e w2⟨rfl,hb2⟩;have HB2:=hQ (HW0.out.trans (hb2.mono HW0.out.size));obtain⟨x0,x1,x2,x3,xl,xf⟩:=Qah ((hb2.block (w.heap.size+1) (Qaa HR.out)).trans HR.out);clear hb2;go_wp2;refine bodyPost_ret (v:=.agg #[.int .i64 0,.string ⟨#[]⟩,.slice none 0 0,.slice none 0 0]) (by simp[results,results67,go_sem, *]) rfl ?_;exact⟨.mk 0 ⟨#[]⟩ [] [],⟨0,⟨#[]⟩,none,0,0,none,0,0⟩,rfl,Qj2 _ _ _ _,by rw[Qai,Qal];exact HS1.out,Qcp.2 ⟨by decide,by simp,by simp,by rw[Qbu]⟩,HB2.out.trans ((Qb6 w2 (w.heap.size+1) ⟨0,⟨#[]⟩,none,0,0,none,0,0⟩).mono (Nat.le_succ _)),.inr rfl⟩
 | true =>
  have HSH:=hQ hs;go_enter func67,ntmps67;go_wp2_with fail;go_at_call 31;refine(Qft _ (fun k=>k<w.heap.size) t v _ (xA _) HT.out HSZ.out HW.out).mono ?_;rw[hs];rintro e w2⟨rfl,hb2⟩;have HB2:=hQ (HW0.out.trans (hb2.mono HW0.out.size));have HT2:=hQ (HT.out.keep hb2);have HR2:=hQ ((hb2.block (w.heap.size+1) (Qaa HR.out)).trans HR.out);have hx2:=(hb2.block w.heap.size (Qaa HX.out)).trans HX.out;have k0:w2.cell? ⟨w.heap.size,0,none⟩=some (.int .i64 v.kind):=Qab hx2 0 _ rfl;have k1:w2.cell? ⟨w.heap.size,1,none⟩=some (.string v.text):=Qab hx2 1 _ rfl;have k2:w2.cell? ⟨w.heap.size,2,none⟩=some (.slice v.la v.ll v.lc):=Qab hx2 2 _ rfl;have k3:w2.cell? ⟨w.heap.size,3,none⟩=some (.slice v.ka v.kl v.kc):=Qab hx2 3 _ rfl;have kl:w.heap.size<w2.heap.size:=Qaa hx2;clear hb2 hs hx2;go_wp2_with fail;go_at_call 102;refine(Quz _ (fun k=>k<w.heap.size) t v ⟨#[]⟩ w2 (xA _) HT2.out HSH.out HTI.out HSZ.out (by decide)).mono ?_;rintro e w3⟨t',u,rfl,hu,hz,hy,hb3,hk3⟩;have HK3:=hQ (show t'.kind=t.kind from hk3);have HU:=hQ hu;have HZ:=hQ hz;have HY:=hQ hy;have HB3:=hQ (HB2.out.trans (hb3.mono HB2.out.size));have HS2:=hQ (show w.heap.size+1<w2.heap.size from Qaa HR2.out);obtain⟨x0,x1,x2,x3,xl,xf⟩:=Qah ((hb3.block (w.heap.size+1) (Qaa HR2.out)).trans HR2.out);clear hu hz hy hb3 hk3 k0 k1 k2 k3 kl;go_wp2;refine bodyPost_ret (v:=.agg #[.int .i64 u.kind,.string u.text,.slice u.la u.ll u.lc,.slice u.ka u.kl u.kc]) (by simp[results,results67,go_sem, *]) rfl ?_;exact⟨t',u,rfl,TrAt.move (fun b hb=>⟨by have:=HS2.out;omega,Nat.lt_of_lt_of_eq hb.2 (Qb7 w3 (w.heap.size+1) u).symm⟩) (fun b hb _=>Qa3 u (by have:=HS2.out;omega)) _ _ HU.out,Nat.le_of_eq HZ.out,HY.out,HB3.out.trans ((Qb6 w3 (w.heap.size+1) u).mono (Nat.le_succ _)),.inl HK3.out⟩
theorem Zhx{B n L:Nat}{w w8:World}{t:Tr}{u:TV}(h:TrAt (fun b=>L<b/\b<w8.heap.size) w8 t u)(hL:w.heap.size<L)(hs:Qai t<=n)(ht:Qf6 t=true)(hB:B<w.heap.size)(hr:Rest1 B w w8)(hd:DiceAt B w8)(k:Int)(hk:t.kind=k\/t.kind=0) :
  Qyp B n k w (.returned (.agg #[.int .i64 u.kind,.string u.text,.slice u.la u.ll u.lc,.slice u.ka u.kl u.kc])) (Qek w8 w.heap.size u) :=
 ⟨t,u,rfl,TrAt.move (fun b hb=>⟨by omega,Nat.lt_of_lt_of_eq hb.2 (Qb7 w8 w.heap.size u).symm⟩) (fun b hb _=>Qa3 u (by omega)) _ _ h,hs,ht,Qe4 _ (xA _) hr,Qe5 _ hd hB,hk⟩
theorem Qzj(B:Nat)(nm:yD)(w:World)(hd:DiceAt B w)(hn:szq nm<=7):Calls prog 43 #[.pointer (some ⟨B,0,none⟩),.string nm] w (Qyp B 352 1 w):=by
 have HB:=hQ hd.lt;have HB0:=hQ ((xC w.heap.size w).alloc (xA _) (.cells #[.int .i64 0,.string ⟨#[]⟩,.slice none 0 0,.slice none 0 0] 25));have HX0:=hQ (xH w (.cells #[.int .i64 0,.string ⟨#[]⟩,.slice none 0 0,.slice none 0 0] 25));have HD0:=hQ (hd.keep HB0.out);have HR0:=hQ (Rest1.below (g:=B) HB0.out);have HNM:=hQ hn;have HWL:=hQ ((xC (w.alloc (.cells #[.int .i64 0,.string ⟨#[]⟩,.slice none 0 0,.slice none 0 0] 25)).heap.size (w.alloc (.cells #[.int .i64 0,.string ⟨#[]⟩,.slice none 0 0,.slice none 0 0] 25))).alloc (xA _) (.cells #[.int .i64 1,.string nm,.slice none 0 0,.slice none 0 0] 25));have HBK:=hQ (show((w.alloc (.cells #[.int .i64 0,.string ⟨#[]⟩,.slice none 0 0,.slice none 0 0] 25)).alloc (.cells #[.int .i64 1,.string nm,.slice none 0 0,.slice none 0 0] 25)).heap[w.heap.size+1]? = some (.cells #[.int .i64 1,.string nm,.slice none 0 0,.slice none 0 0] 25 (0,0)) from by have:=xH (w.alloc (.cells #[.int .i64 0,.string ⟨#[]⟩,.slice none 0 0,.slice none 0 0] 25)) (.cells #[.int .i64 1,.string nm,.slice none 0 0,.slice none 0 0] 25);rwa[xI]at this);have HDL:=hQ (HD0.out.keep HWL.out);have HRL:=hQ (HR0.out.trans (Rest1.below HWL.out));have HXL:=hQ ((HWL.out.block w.heap.size (Qaa HX0.out)).trans HX0.out);have HLL:=hQ (show w.heap.size<w.heap.size+1 from xW _);clear hd hn;go_enter func43,ntmps43;go_wp2_with fail;go_at_call 42;refine(Qci B 4 _ HDL.out (by decide) (by decide)).mono ?_;rintro e w3⟨q,rfl,q0,q1,hrest,hd1⟩;have HGJ:=hQ (GrW.start (tx:=nm) (kd:=1) ((hrest.block (w.heap.size+1) (Qaa HBK.out) (by have:=HB.out;have:=HLL.out;omega)).trans HBK.out) (HRL.out.trans hrest) hd1 ((hrest.block w.heap.size (Qaa HXL.out) (by have:=HB.out;omega)).trans HXL.out));clear hrest hd1;obtain⟨q,rfl⟩:∃ z:Nat,q=(z:Int):=⟨q.toNat,by omega⟩;go_wp2
 go_loopw [6] (fun k wr=>GrL B w.heap.size (w.heap.size+1) 1 nm 117 w k wr) (fun k _=>(intOf k).toNat)
 case atStart=>exact⟨q,[],[],none,0,rfl,by simp;omega,by rw[Qal];exact xZ _,HGJ.out⟩
 case round =>
  obtain⟨j,ks,us,ka,kc,rfl,hj,hs,hg⟩:=hrel;have HG:=hQ hg;have HJ:=hQ hj;have HSZ:=hQ hs;have HBL:=hQ (show B<(w.heap.size+1) from by have:=HB.out;have:=HLL.out;omega);obtain⟨it,hit,ht0,ht1,ht2⟩:=info_parts Qcm;cases j with
  | zero =>
   have HTR:=hQ hg.tr;have HSZ2:=hQ (show Qai (.mk 1 nm [] ks)<=352 from by rw[Qai];have:=GrL.size hj hs;omega);have HTY:=hQ (show Qf6 (.mk 1 nm [] ks)=true from Qcp.2 ⟨HNM.out,by simp,by simp,hg.tiny⟩);clear hj hs hg;have y0:wr.cell? ⟨w.heap.size+1,0,none⟩=some (.int .i64 1):=Qab HG.out.blk 0 _ rfl;have y1:wr.cell? ⟨w.heap.size+1,1,none⟩=some (.string nm):=Qab HG.out.blk 1 _ rfl;have y2:wr.cell? ⟨w.heap.size+1,2,none⟩=some (.slice none 0 0):=Qab HG.out.blk 2 _ rfl;have y3:wr.cell? ⟨w.heap.size+1,3,none⟩=some (.slice ka ks.length kc):=Qab HG.out.blk 3 _ rfl;have yl:w.heap.size+1<wr.heap.size:=Qaa HG.out.blk;have yf:∀ o,wr.frozen? ⟨w.heap.size+1,o,none⟩=false:=fun o=>xL HG.out.blk _
   go_wp2_with fail;go_at_call 67;refine(Zkz _ (.mk 1 nm [] ks) (⟨1,nm,none,0,0,ka,ks.length,kc⟩:TV) wr HTR.out HTY.out (by have:=HSZ2.out;omega)).mono ?_;rintro e w5⟨t1,u1,rfl,ht,hz,hy,hb5,hk5⟩;have HK5:=hQ (show t1.kind=1\/t1.kind=0 from hk5);have HU5:=hQ (show u1.kind=t1.kind from ht.kl.2.2.1);clear hk5;have hL5:=(hb5.block (w.heap.size+1) (Qaa HG.out.blk)).trans HG.out.blk;have hR5:=(hb5.block w.heap.size (Qaa HG.out.res)).trans HG.out.res;have HLW:=hQ (show w.heap.size+1<wr.heap.size from Qaa HG.out.blk);have hD5:=HG.out.dice.keep hb5;have hr5:=HG.out.rest.trans (Rest1.below hb5);clear y0 y1 y2 y3 yl yf;have y0:w5.cell? ⟨w.heap.size+1,0,none⟩=some (.int .i64 1):=Qab hL5 0 _ rfl;have y1:w5.cell? ⟨w.heap.size+1,1,none⟩=some (.string nm):=Qab hL5 1 _ rfl;have y2:w5.cell? ⟨w.heap.size+1,2,none⟩=some (.slice none 0 0):=Qab hL5 2 _ rfl;have y3:w5.cell? ⟨w.heap.size+1,3,none⟩=some (.slice ka ks.length kc):=Qab hL5 3 _ rfl;have yl:w.heap.size+1<w5.heap.size:=Qaa hL5;have yf:∀ o,w5.frozen? ⟨w.heap.size+1,o,none⟩=false:=fun o=>xL hL5 _
   have kL:((((w5.setCell ⟨w.heap.size+1,0,none⟩ (.int .i64 u1.kind)).setCell ⟨w.heap.size+1,1,none⟩ (.string u1.text)).setCell ⟨w.heap.size+1,2,none⟩ (.slice u1.la u1.ll u1.lc)).setCell ⟨w.heap.size+1,3,none⟩ (.slice u1.ka u1.kl u1.kc)).heap[w.heap.size+1]? = some (trO u1):=Qf2 (v:=(⟨1,nm,none,0,0,ka,ks.length,kc⟩:TV)) u1 hL5;have kR:((((w5.setCell ⟨w.heap.size+1,0,none⟩ (.int .i64 u1.kind)).setCell ⟨w.heap.size+1,1,none⟩ (.string u1.text)).setCell ⟨w.heap.size+1,2,none⟩ (.slice u1.la u1.ll u1.lc)).setCell ⟨w.heap.size+1,3,none⟩ (.slice u1.ka u1.kl u1.kc)).heap[w.heap.size]? = some (.cells #[.int .i64 0,.string ⟨#[]⟩,.slice none 0 0,.slice none 0 0] 25 (0,0)):=(Qa3 (w:=w5) (b:=w.heap.size+1) u1 (by omega)).trans hR5;have kD:DiceAt B ((((w5.setCell ⟨w.heap.size+1,0,none⟩ (.int .i64 u1.kind)).setCell ⟨w.heap.size+1,1,none⟩ (.string u1.text)).setCell ⟨w.heap.size+1,2,none⟩ (.slice u1.la u1.ll u1.lc)).setCell ⟨w.heap.size+1,3,none⟩ (.slice u1.ka u1.kl u1.kc)):=Qe5 (R:=w.heap.size+1) u1 hD5 (by have:=HB.out;omega);have kr:Rest1 B w ((((w5.setCell ⟨w.heap.size+1,0,none⟩ (.int .i64 u1.kind)).setCell ⟨w.heap.size+1,1,none⟩ (.string u1.text)).setCell ⟨w.heap.size+1,2,none⟩ (.slice u1.la u1.ll u1.lc)).setCell ⟨w.heap.size+1,3,none⟩ (.slice u1.ka u1.kl u1.kc)):=Qe4 (R:=w.heap.size+1) u1 (by omega) hr5;have kT:TrAt (fun b=>w.heap.size+1<b/\b<((((w5.setCell ⟨w.heap.size+1,0,none⟩ (.int .i64 u1.kind)).setCell ⟨w.heap.size+1,1,none⟩ (.string u1.text)).setCell ⟨w.heap.size+1,2,none⟩ (.slice u1.la u1.ll u1.lc)).setCell ⟨w.heap.size+1,3,none⟩ (.slice u1.ka u1.kl u1.kc)).heap.size) ((((w5.setCell ⟨w.heap.size+1,0,none⟩ (.int .i64 u1.kind)).setCell ⟨w.heap.size+1,1,none⟩ (.string u1.text)).setCell ⟨w.heap.size+1,2,none⟩ (.slice u1.la u1.ll u1.lc)).setCell ⟨w.heap.size+1,3,none⟩ (.slice u1.ka u1.kl u1.kc)) t1 u1:=TrAt.move (w':=Qek w5 (w.heap.size+1) u1) (fun b hb=>⟨by have:=HLW.out;omega,Nat.lt_of_lt_of_eq hb.2 (Qb7 w5 (w.heap.size+1) u1).symm⟩) (fun b hb _=>Qa3 u1 (by have:=HLW.out;omega)) _ _ ht;have HZ1:=hQ (xQ hz HSZ2.out);have HY1:=hQ hy;clear ht hz hy hb5 hL5 hR5 hD5 hr5;go_wp2_with fail;generalize ((((w5.setCell ⟨w.heap.size+1,0,none⟩ (.int .i64 u1.kind)).setCell ⟨w.heap.size+1,1,none⟩ (.string u1.text)).setCell ⟨w.heap.size+1,2,none⟩ (.slice u1.la u1.ll u1.lc)).setCell ⟨w.heap.size+1,3,none⟩ (.slice u1.ka u1.kl u1.kc))=w6 at kL kR kD kr kT |-;go_at_call 42;have HL6:=hQ kL;have HR6:=hQ kR;have HR6':=hQ kr;have HT6:=hQ kT;refine(Qci B 2 w6 kD (by decide) (by decide)).mono ?_;rintro e w7⟨r,rfl,r0,r1,hrest,hd7⟩;have HD7:=hQ hd7;have HRW:=hQ (HR6'.out.trans hrest);have HL7:=hQ ((hrest.block (w.heap.size+1) (Qaa HL6.out) (by have:=HB.out;omega)).trans HL6.out);have HX7:=hQ ((hrest.block w.heap.size (Qaa HR6.out) (by have:=HB.out;omega)).trans HR6.out);have HT7:=hQ (TrAt.move (S':=fun b=>w.heap.size+1<b/\b<w7.heap.size) (fun b hb=>⟨hb.1,xE hb.2 hrest.size⟩) (fun b hb hl=>hrest.block b hl (by have:=HB.out;omega)) _ _ HT6.out);clear kL kR kD kr kT hrest hd7 y0 y1 y2 y3 yl yf;have y0:w7.cell? ⟨w.heap.size+1,0,none⟩=some (.int .i64 u1.kind):=Qab HL7.out 0 _ rfl;have y1:w7.cell? ⟨w.heap.size+1,1,none⟩=some (.string u1.text):=Qab HL7.out 1 _ rfl;have y2:w7.cell? ⟨w.heap.size+1,2,none⟩=some (.slice u1.la u1.ll u1.lc):=Qab HL7.out 2 _ rfl;have y3:w7.cell? ⟨w.heap.size+1,3,none⟩=some (.slice u1.ka u1.kl u1.kc):=Qab HL7.out 3 _ rfl;have yl:w.heap.size+1<w7.heap.size:=Qaa HL7.out;have yf:∀ o,w7.frozen? ⟨w.heap.size+1,o,none⟩=false:=fun o=>xL HL7.out _
   by_cases hr:r=0
   ·subst hr;go_wp2_with fail;go_at_call 68;refine(Qzi B _ t1 u1 w7 (xA _) (TrAt.move (fun b hb=>⟨hb.2,by have:=HB.out;omega⟩) (fun _ _ _=>rfl) _ _ HT7.out) HD7.out HY1.out (by have:=HZ1.out;omega)).mono ?_;rintro e w8⟨t2,u2,rfl,ht,hz,hy,hrest,hd8,hk8⟩;have HK8:=hQ (show t2.kind=1\/t2.kind=0 from by rcases hk8 with h | h;rcases HK5.out with h' | h';exact .inl (by rw[h,HU5.out,h']);exact .inr (by rw[h,HU5.out,h']);exact .inr h);clear hk8;have HT8:=hQ (TrAt.move (S':=fun b=>w.heap.size+1<b/\b<w8.heap.size) (fun b hb=>⟨by have:=Qaa HL7.out;omega,hb.2⟩) (fun _ _ _=>rfl) _ _ ht);have HZ2:=hQ (xQ hz HZ1.out);have HY2:=hQ hy;have HD8:=hQ hd8;have HR8:=hQ (HRW.out.trans hrest);have HL8:=hQ ((hrest.block (w.heap.size+1) (Qaa HL7.out) (by have:=HB.out;omega)).trans HL7.out);have HX8:=hQ ((hrest.block w.heap.size (Qaa HX7.out) (by have:=HB.out;omega)).trans HX7.out);clear ht hz hy hrest hd8 y0 y1 y2 y3 yl yf;have y0:w8.cell? ⟨w.heap.size+1,0,none⟩=some (.int .i64 u1.kind):=Qab HL8.out 0 _ rfl;have y1:w8.cell? ⟨w.heap.size+1,1,none⟩=some (.string u1.text):=Qab HL8.out 1 _ rfl;have y2:w8.cell? ⟨w.heap.size+1,2,none⟩=some (.slice u1.la u1.ll u1.lc):=Qab HL8.out 2 _ rfl;have y3:w8.cell? ⟨w.heap.size+1,3,none⟩=some (.slice u1.ka u1.kl u1.kc):=Qab HL8.out 3 _ rfl;have yl:w.heap.size+1<w8.heap.size:=Qaa HL8.out;have yf:∀ o,w8.frozen? ⟨w.heap.size+1,o,none⟩=false:=fun o=>xL HL8.out _
    obtain⟨x0,x1,x2,x3,xl,xf⟩:=Qah HX8.out;go_wp2;refine bodyPost_ret (v:=.agg #[.int .i64 u2.kind,.string u2.text,.slice u2.la u2.ll u2.lc,.slice u2.ka u2.kl u2.kc]) (by simp[results,results43,go_sem, *]) rfl ?_;exact Zhs (L:=w.heap.size+1) HT8.out (by omega) HZ2.out HY2.out HB.out HR8.out HD8.out 1 HK8.out
   ·have hr2:decide (r=0)=false:=xR hr;have hr3:(r==0)=false:=by simpa using hr
    obtain⟨x0,x1,x2,x3,xl,xf⟩:=Qah HX7.out;go_wp2;refine bodyPost_ret (v:=.agg #[.int .i64 u1.kind,.string u1.text,.slice u1.la u1.ll u1.lc,.slice u1.ka u1.kl u1.kc]) (by simp[results,results43,go_sem, *]) rfl ?_;exact Zhx HT7.out (by omega) HZ1.out HY1.out HB.out HRW.out HD7.out 1 HK5.out
  | succ i =>
   have g3:wr.cell? ⟨(w.heap.size+1),3,none⟩=some (.slice ka ks.length kc):=Qab hg.blk 3 _ rfl;have gl:(w.heap.size+1)<wr.heap.size:=Qaa hg.blk;have gf:wr.frozen? ⟨(w.heap.size+1),3,none⟩=false:=xL hg.blk _;have HB1:=hQ (show ks.length+1<=maxLen from by unfold maxLen;omega);have HB2:=hQ (show(ks.length+1)*72<=140737488355328 from by omega);have hi:(i:Int)<=3:=by omega
   have hi0:(0:Int)<=(i:Int):=by omega
   clear hj hs hg;go_wp2_with fail
   go_region_law (first
    | (go_simp;go_at_call 66;refine(Zkv B _ HG.out.dice.drew).mono ?_;rintro e w5⟨t,u,rfl,ht,hz,hy,hrest0,hd5⟩;have hrest:=hrest0.ofDrew;have HT:=hQ (show TrAt (fun b=>wr.heap.size<=b/\b<w5.heap.size) w5 t u from ht);have HZ:=hQ hz;have HY:=hQ hy;have HR5:=hQ hrest;have HD5:=hQ hd5;have HO5:=hQ (Qdn HG.out.row hrest (by have:=HBL.out;omega));have HL5:=hQ (HG.out.facts hrest HBL.out);clear ht hz hy hrest hrest0 hd5 g3 gl gf;have g3:w5.cell? ⟨(w.heap.size+1),3,none⟩=some (.slice ka ks.length kc):=Qab HL5.out 3 _ rfl;have gl:(w.heap.size+1)<w5.heap.size:=Qaa HL5.out;have gf:w5.frozen? ⟨(w.heap.size+1),3,none⟩=false:=xL HL5.out _)
    | (refine step_append_lies _ (by rfl) _ _ _ (by rfl) ((w.heap.size+1)+1) 25 it _ 4 72 underlying22 hit ht0 ht1 ht2 rfl (by decide) (.slice ka ks.length kc) ks.length (Qag us) (by rfl) (HO5.out.alloc _) ⟨w5.heap.size,0,none⟩ 1 1 (Qag [u]) (by rfl) (by rfl) (xM (cs:=(Qag [u]).toArray) (t:=25) (fr:=(0,0)) (xH w5 (.cells (Qag [u]).toArray 25))) (Qdk [u]) (by decide) HB1.out HB2.out (by rw[xI];have:=Qaa HL5.out;omega) (w5.heap.size+1) (by simp) ?_;intro g cap w7 ho7 hg7 hat7 hlt7;have HO7:=hQ ho7;have HG7:=hQ hg7;have HAT7:=hQ hat7;have hx7:=hQ (Qgb (w5:=w5) HL5.out hg7 HG.out.off);clear ho7 hg7 hat7 hlt7 g3 gl gf;have g3:w7.cell? ⟨(w.heap.size+1),3,none⟩=some (.slice ka ks.length kc):=Qab hx7.out 3 _ rfl;have gl:(w.heap.size+1)<w7.heap.size:=Qaa hx7.out;have gf:w7.frozen? ⟨(w.heap.size+1),3,none⟩=false:=xL hx7.out _;clear hx7))
   all_goals
    go_wp2;go_roundw
    case measure=>first | (simp[intOf];done) | (simp[intOf];omega)
    case rel=>exact GrL.more HJ.out HSZ.out HZ.out (HG.out.next HB.out HLL.out (by have:=HLL.out;omega) (Qhg HT.out) (by rw[Qbu,HY.out,Qbu];rfl) HR5.out HD5.out rfl HO7.out HG7.out HAT7.out)
def Znp(w:World)(e:Ending)(w':World):Prop:=∃ B:Nat,e = .returned (.pointer (some ⟨B,0,none⟩))/\w.heap.size<=B/\DiceAt B w'/\Below w.heap.size w w'
theorem Zhy(A:yE)(c:Nat)(xs:List Int)(w:World)(hx:Ql9 w A xs)(hl:xs.length<=120):Calls prog 41 #[.slice A xs.length c] w (Znp w):=by
 obtain⟨ii,hii,iz0,iz1,iz2⟩:=info_parts Zhi
 by_cases h0:xs.length=0
 ·have hxn:xs = []:=List.eq_nil_of_length_eq_zero h0;have H0:=hQ h0;have HN:=hQ hxn;clear h0 hxn hx hl;go_enter func41,ntmps41;go_wp2_with (at_builtin;refine Qfn rfl _ _ 35 rfl 3 ii underlying35 hii (ad:=⟨w.heap.size,0,none⟩) (n:=0) (cap:=0) rfl (xA _) (A:=A) (m:=xs.length) (c:=c) H0.out rfl ?_)
  go_ret;refine⟨w.heap.size+1,rfl,Nat.le_succ _,⟨some ⟨w.heap.size,0,none⟩,0,0,[],?_,by simp,by simp,by simp,fun h=>absurd rfl h⟩,((xC _ _).alloc (xA _) _).alloc (by rw[xI];omega) _⟩;have:=xH (w.alloc (.cells #[] 3)) (.cells #[.slice (some ⟨w.heap.size,0,none⟩) 0 0,.int .i64 0] 107)
  rwa[xI]at this
 ·obtain⟨b,off,hA,hb,hcs⟩:=hx (fun e=>h0 (by rw[e];rfl));subst hA;have HW1:=hQ ((xC w.heap.size w).alloc (xA _) (.cells #[] 3))
  have hcs':∀ (j:Nat) (x:Value),(xs.map (Value.int .i64))[j]? = some x->w.cell? ⟨b,off+j,none⟩=some x:=fun j x hx=>by
   rw[List.getElem?_map]at hx;obtain⟨z,hz,rfl⟩:=Option.map_eq_some_iff.1 hx;exact hcs j z hz
  have HN1:=hQ (Zk0 hcs' HW1.out);have HQ0:=hQ (show 0<xs.length from by omega);have HL:=hQ hl;have HM1:=hQ (show 0+xs.length<=maxLen from by unfold maxLen;omega);have HM2:=hQ (show(0+xs.length)*8<=140737488355328 from by omega);have HM3:=hQ (show w.heap.size<=(w.alloc (.cells #[] 3)).heap.size from HW1.out.size);have HON:=hQ (Zhj xs);clear hcs hcs' hx hl h0;go_enter func41,ntmps41;go_wp2_with (at_builtin;refine wpList_append_lies _ rfl _ _ 35 rfl w.heap.size 3 ii _ 1 8 underlying35 hii iz0 iz1 iz2 rfl (by decide) (.slice (some ⟨w.heap.size,0,none⟩) 0 0) 0 [] rfl (Qla w _) ⟨b,off,none⟩ xs.length c (xs.map (Value.int .i64)) rfl (by rw[List.length_map,Nat.mul_one]) HN1.out HON.out HQ0.out HM1.out HM2.out HM3.out _ rfl ?_;intro g cap w5 hown hgr _ hlt;have HB5:=hQ (show Below w.heap.size w w5 from HW1.out.grown hgr HM3.out (fun k hk=>by simp[Value.ownBlock]at hk;omega));have HO5:=hQ hown;clear hown hgr hlt;simp only[Nat.zero_add])
  go_ret;have ho:=HO5.out;simp only[Nat.zero_add,xU]at ho;obtain⟨g',hg,hcc⟩:=IntRow.cells (p:=xs) ho HQ0.out
  have hlt:g'<w5.heap.size:=by
   obtain⟨z,hz⟩:∃ z,(xs.map (Value.int .i64))[0]? = some z:=⟨_,xF (by rw[List.length_map];exact HQ0.out)⟩;exact xK w5 _ (hcc 0 z hz)
  have hbw:Below w5.heap.size w5 (w5.alloc (.cells #[.slice (some ⟨g,0,none⟩) xs.length cap,.int .i64 0] 107)):=(xC _ _).alloc (xA _) _;refine⟨w5.heap.size,rfl,HB5.out.size,⟨some ⟨g,0,none⟩,cap,0,xs,xH w5 _,HL.out,xZ _,Qgv ho,fun _=>⟨g',0,hg,hlt,fun i x hx=>?_⟩⟩,HB5.out.trans (hbw.mono HB5.out.size)⟩;have h1:=hcc i (.int .i64 x) (by rw[List.getElem?_map,hx];rfl);exact(xJ (w:=w5) (a:=⟨g',0+i,none⟩) (hbw.block g' hlt)).trans h1
def Qs3(t:Tr):Prop:=Qgi t=true/\Qf6 t=true/\Qai t<=352/\t.kind=1
def Zil(lo:Nat)(w:World)(r:Value)(ps:List Tr):Prop:=∃ (A:yE) (c:Nat) (us:List TV),r = .slice A ps.length c/\ps.length<=c/\us.length=ps.length /\
 (ps≠[]->∃ g cs,A=some ⟨g,0,none⟩/\lo<=g/\w.heap[g]? = some (.cells cs 25 (0,0))/\RowIs cs us)/\∀ (i:Nat) (k:Tr) (u:TV),ps[i]? = some k->us[i]? = some u->TrAt (fun b=>lo<=b/\b<w.heap.size) w k u
def Znq(w:World)(e:Ending)(w':World):Prop:=∃ (r:Value) (ps:List Tr),e = .returned r/\Zil w.heap.size w' r ps/\ps.length<=3/\(∀ t∈ps,Qs3 t)/\Below w.heap.size w w'
structure PrW (B:Nat) (w wr:World) (ps:List Tr) (us:List TV) (A:yE) (c:Nat):Prop where
 good:∀ t∈ps,Qs3 t
 len:us.length=ps.length
 row:wr.ownsRow (B+1) 25 4 (.slice A ps.length c) ps.length (Qag us)
 kid:∀ (i:Nat) (k:Tr) (u:TV),ps[i]? = some k->us[i]? = some u->TrAt (fun b=>B<b/\b<wr.heap.size/\(Value.slice A ps.length c).ownBlock≠some b) wr k u
 below:Below w.heap.size w wr
 dice:DiceAt B wr
 wB:w.heap.size<=B
theorem PrW.keep{B:Nat}{w wr w':World}{ps:List Tr}{us:List TV}{A:yE}{c:Nat}(h:PrW B w wr ps us A c)(hr:Rest1 B wr w')(hd:DiceAt B w'):PrW B w w' ps us A c :=
 ⟨h.good,h.len,Qdn h.row hr (xW _),fun i k u hk hu=>TrAt.move (fun b hb=>⟨hb.1,xE hb.2.1 hr.size,hb.2.2⟩) (fun b hb hl=>hr.block b hl (by omega)) _ _ (h.kid i k u hk hu),h.below.trans (hr.down h.wB h.below.size),hd,h.wB⟩
theorem PrW.next{B:Nat}{w wr w8 w9:World}{ps:List Tr}{us:List TV}{A:yE}{c g cap m:Nat}{t:Tr}{u:TV}{o:Obj}(h:PrW B w wr ps us A c)(hr:Rest1 B wr w8)(hd:DiceAt B w8)(ht:TrAt (fun b=>wr.heap.size<=b/\b<w8.heap.size) w8 t u)(hgd:Qs3 t)(hm:m=ps.length+1)
  (ho:w9.ownsRow (B+1) 25 4 (.slice (some ⟨g,0,none⟩) m cap) m (Qag us ++ Qag [u])) (hg:(w8.alloc o).grownBy w9 (Value.slice A ps.length c).ownBlock) (hat:(Value.slice A ps.length c).ownBlock=some g\/g=w8.heap.size+1) :
  PrW B w w9 (ps ++ [t]) (us ++ [u]) (some ⟨g,0,none⟩) cap:=by
 have hrow:∀ b,(Value.slice A ps.length c).ownBlock=some b->B+1<=b/\b<wr.heap.size:=h.row.lt;have hs8:=hr.size;have hs9:w8.heap.size+1<=w9.heap.size:=by have:=hg.size;rwa[xI]at this
 have hml:m=(ps ++ [t]).length:=by rw[hm,xB];rfl
 have hB:=h.dice.lt;have h89:∀ b,b<w8.heap.size->(Value.slice A ps.length c).ownBlock≠some b->w9.heap[b]? = w8.heap[b]?:=fun b hl hn=>(hg.block b (by rw[xI];omega) (Ne.symm hn)).trans (Below.heap_alloc w8 _ b hl)
 have hlow:∀ b,b<B+1->(Value.slice A ps.length c).ownBlock≠some b:=fun b hl e=>by have:=hrow b e;omega
 have hge:∀ b,(Value.slice A ps.length c).ownBlock≠some b->b<w8.heap.size->b≠g:=fun b hn hl e=>by
  rcases hat with h | h
  ·exact hn (by rw[h,e])
  ·omega
 have hn5:∀ b,wr.heap.size<=b->(Value.slice A ps.length c).ownBlock≠some b:=fun b hl e=>by have:=hrow b e;omega
 have hb8:=h.below.trans (hr.down h.wB h.below.size)
 refine⟨fun z hz=>?_,by rw[xB,xB,h.len];rfl,by rw[<-hml,Qfy];exact ho,fun i k' u' hk' hu=>?_,⟨(hg.os.trans rfl).trans hb8.os,(hg.tape.trans rfl).trans hb8.tape,(hg.output.trans rfl).trans hb8.output,by have:=hb8.size;omega,fun k hk=>(h89 k (by have:=hb8.size;omega) (hlow k (by have:=h.wB;omega))).trans (hb8.block k hk)⟩,hd.other fun k hk=>h89 k (by omega) (hlow k (by omega)),h.wB⟩
 ·rcases List.mem_append.1 hz with hz | hz
  ·exact h.good z hz
  ·rw[List.mem_singleton]at hz;rw[hz];exact hgd
 ·rw[<-hml]
  by_cases hi:i<ps.length
  ·rw[yB hi]at hk';rw[yB (by rw[h.len];exact hi)]at hu;refine TrAt.move (fun b hb'=>⟨hb'.1,by omega,fun e=>?_⟩) (fun b hb' hl=>(h89 b (by omega) hb'.2.2).trans (hr.block b hl (by omega))) _ _ (h.kid i k' u' hk' hu);have:g=b:=by simpa [Value.ownBlock] using e
   exact hge b hb'.2.2 (by omega) this.symm
  ·have hl:=(xP.1 hk').1;rw[xB,List.length_singleton]at hl;obtain rfl:i=ps.length:=by omega
   rw[xX (xA _),Nat.sub_self]at hk';rw[<-h.len,xX (xA _),Nat.sub_self]at hu;injection hk' with hk';injection hu with hu;subst hk' hu;have hBw:=h.dice.lt;refine TrAt.move (fun b hb'=>⟨by omega,by omega,fun e=>?_⟩) (fun b hb' hl=>h89 b hl (hn5 b hb'.1)) _ _ ht;have:g=b:=by simpa [Value.ownBlock] using e
   exact hge b (hn5 b hb'.1) hb'.2 this.symm
theorem PrW.mods{B:Nat}{w wr:World}{ps:List Tr}{us:List TV}{A:yE}{c:Nat}(h:PrW B w wr ps us A c):Zil w.heap.size wr (.slice A ps.length c) ps:=by
 refine⟨A,c,us,rfl,Qgv h.row,h.len,fun hne=>?_,fun i k u hk hu=>TrAt.move (fun b hb=>⟨by have:=h.wB;omega,hb.2.1⟩) (fun _ _ _=>rfl) _ _ (h.kid i k u hk hu)⟩;have h0:0<ps.length:=List.length_pos_iff.2 hne;obtain⟨g,cp,hv,hg1,hg2⟩:=World.ownsRow.form h.row h0;injection hv with hv1 hv2 hv3;subst hv1;obtain⟨r1,r2,cur,r3,r4⟩:=Qk9 h.row h0;exact⟨g,cur,rfl,by have:=h.wB;omega,r3,r4⟩
theorem TrAt.text{S:Nat->Prop}{w:World}{t:Tr}{v:TV}(h:TrAt S w t v)(x:yD):TrAt S w (.mk t.kind x t.leads t.kids) ⟨v.kind,x,v.la,v.ll,v.lc,v.ka,v.kl,v.kc⟩:=by
 cases t
 unfold TrAt at h |-;exact⟨h.1,rfl,h.2.2⟩
theorem Zen{t:Tr}(h:Qf6 t=true){x:yD}(hx:szq x<=7):Qf6 (.mk t.kind x t.leads t.kids)=true:=by
 cases t
 obtain⟨_,h2⟩:=Qcp.1 h;exact Qcp.2 ⟨hx,h2⟩
theorem Zeo(t:Tr)(x:yD):Qai (.mk t.kind x t.leads t.kids)=Qai t:=by cases t;rw[Qai,Qai];rfl
theorem Qpw(S:Nat->Prop)(t:Tr)(v:TV)(w:World)(h:TrAt S w t v)(hti:Qf6 t=true)(hs:Qai t<=352) :
  Calls prog 44 #[.agg #[.int .i64 v.kind,.string v.text,.slice v.la v.ll v.lc,.slice v.ka v.kl v.kc]] w fun e w'=>e = .returned (.bool (Qgi t))/\Below w.heap.size w w':=by
 have hc:=Qmu t hti;exact Qzg S t v w h (by omega) (Qrx t (by omega)) (Qk8 t (by omega)) (xQ (Qpv (by omega)) (by decide)) (Qu3 (by omega) (by omega))
theorem Zep{t:Tr}(hv:Qgi t=true)(ht:Qf6 t=true)(hs:Qai t<=352)(hk:t.kind=1\/t.kind=0):Qs3 t:=by
 refine⟨hv,ht,hs,hk.resolve_right fun h0=>?_⟩;have h1:=Qce _ t (xA _) (by omega);unfold Qgi at hv;rw[Bool.and_eq_true,Bool.and_eq_true,Bool.and_eq_true,Bool.and_eq_true]at hv;rw[hv.1.1.1.1]at h1;have h2:=(Qk7 h1).1;rw[h0]at h2
 revert h2
 unfold Qat;simp
end Go.Proofs.YtfjpemdejoejbaaGreat
