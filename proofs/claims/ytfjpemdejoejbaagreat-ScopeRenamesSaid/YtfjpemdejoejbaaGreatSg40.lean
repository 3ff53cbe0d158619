/- Part 40 -/
import Derived.Test.YtfjpemdejoejbaaGreatSg36
import Derived.IntWalk
set_option maxRecDepth 100000
set_option maxHeartbeats 4000000
namespace Go.Proofs.YtfjpemdejoejbaaGreat
open Go.RowKit Go.Shelf
theorem Qxg {w:World} {B:Nat} {e:TypeId} {size n:Nat} {v:Value} {xs:List Value} (h:w.ownsRow B e size v n xs) {b o:Nat} {u:Value} (hb:b<B):(w.setCell ⟨b,o,none⟩ u).ownsRow B e size v n xs :=
 ⟨h.1,h.2.imp id fun ⟨g,cap,cur,hv,hB,hh,r⟩=>⟨g,cap,cur,hv,hB,(Qao (by omega)).trans hh,r⟩⟩
theorem Qdj {w w1:World} {base B:Nat} {e:TypeId} {size n:Nat} {v:Value} {xs:List Value} (h:w.ownsRow base e size v n xs) (hr:Rest1 B w w1) (hB:B<base):w1.ownsRow base e size v n xs :=
 ⟨h.1,h.2.imp id fun ⟨g,cap,cur,hv,hb,hh,r⟩=>⟨g,cap,cur,hv,hb,(hr.block g (Qaa hh) (by omega)).trans hh,r⟩⟩
structure GrW (B R L:Nat) (kd:Int) (tx:ByteArray) (w wr:World) (ks:List Tr) (us:List TV) (ka:Option Addr) (kc:Nat):Prop where
 len:us.length=ks.length
 blk:wr.heap[L]? = some (.cells #[.int .i64 kd,.string tx,.slice none 0 0,.slice ka ks.length kc] 25 (0,0))
 row:wr.ownsRow (L+1) 25 4 (.slice ka ks.length kc) ks.length (Qag us)
 kid:∀ (i:Nat) (k:Tr) (u:TV),ks[i]? = some k→us[i]? = some u→TrAt (fun b=>L+1≤b∧b<wr.heap.size∧(Value.slice ka ks.length kc).ownBlock≠some b) wr k u
 tiny:Qbm ks=true
 rest:Rest1 B w wr
 dice:DiceAt B wr
 res:wr.heap[R]? = some (.cells #[.int .i64 0,.string ⟨#[]⟩,.slice none 0 0,.slice none 0 0] 25 (0,0))
theorem GrW.next {B R L:Nat} {kd:Int} {tx:ByteArray} {w wr w5 w6:World} {ks nks:List Tr} {us nus:List TV} {ka:Option Addr} {kc g cap m:Nat} {o:Obj} (h:GrW B R L kd tx w wr ks us ka kc) (hBR:B<R) (hRL:R<L) (hw:w.heap.size≤L)
  (hK:KidsFr wr.heap.size w5 nks nus) (ht:Qbm nks=true) (hr:Rest1 B wr w5) (hd:DiceAt B w5) (hm:m=ks.length+nks.length)
  (ho:w6.ownsRow (L+1) 25 4 (.slice (some ⟨g,0,none⟩) m cap) m (Qag us ++ Qag nus))
  (hg:(w5.alloc o).grownBy w6 (Value.slice ka ks.length kc).ownBlock) (hat:(Value.slice ka ks.length kc).ownBlock=some g∨g=w5.heap.size+1) :
  GrW B R L kd tx w (w6.setCell ⟨L,3,none⟩ (.slice (some ⟨g,0,none⟩) m cap)) (ks ++ nks) (us ++ nus) (some ⟨g,0,none⟩) cap:=by
 have hrow:∀ b,(Value.slice ka ks.length kc).ownBlock=some b→L+1≤b∧b<wr.heap.size:=h.row.lt;have hs5:=hr.size;have hs6:w5.heap.size+1≤w6.heap.size:=by have:=hg.size;rwa [xI] at this
 have hsz:(w6.setCell ⟨L,3,none⟩ (.slice (some ⟨g,0,none⟩) m cap)).heap.size=w6.heap.size:=by simp [World.setCell]
 have hLw:L<wr.heap.size:=Qaa h.blk;have hml:m=(ks ++ nks).length:=by rw [hm,xB]
 have h56:∀ b,b<w5.heap.size→(Value.slice ka ks.length kc).ownBlock≠some b→w6.heap[b]? = w5.heap[b]?:=fun b hl hn=>(hg.block b (by rw [xI];omega) (Ne.symm hn)).trans (Below.heap_alloc w5 _ b hl)
 have hr6:∀ b,b<wr.heap.size→b≠B→(Value.slice ka ks.length kc).ownBlock≠some b→w6.heap[b]? = wr.heap[b]?:=fun b hl hB hn=>(h56 b (by omega) hn).trans (hr.block b hl hB)
 have hlow:∀ b,b<L+1→(Value.slice ka ks.length kc).ownBlock≠some b:=fun b hl e=>by have:=hrow b e;omega
 have hge:∀ b,(Value.slice ka ks.length kc).ownBlock≠some b→b<w5.heap.size→b≠g:=fun b hn hl e=>by
  rcases hat with h | h
  ·exact hn (by rw [h,e])
  ·omega
 have hn5:∀ b,wr.heap.size≤b→(Value.slice ka ks.length kc).ownBlock≠some b:=fun b hl e=>by have:=hrow b e;omega
 refine ⟨by rw [xB,xB,h.len,hK.1],?_,?_,fun i k' u hk' hu=>?_,by rw [Qgz,h.tiny,ht];rfl,?_,?_,?_⟩
 ·rw [←hml];exact Qay ((hr6 L hLw (by omega) (hlow L (by omega))).trans h.blk) rfl
 ·rw [←hml,Qfu];exact Qxg ho (by omega)
 ·rw [←hml]
  by_cases hi:i<ks.length
  ·rw [yB hi] at hk';rw [yB (by rw [h.len];exact hi)] at hu;refine TrAt.move (fun b hb'=>⟨hb'.1,by rw [hsz];omega,fun e=>?_⟩) (fun b hb' hl=>(Qao (by omega)).trans (hr6 b hl (by omega) hb'.2.2)) _ _ (h.kid i k' u hk' hu);have:g=b:=by simpa [Value.ownBlock] using e
   exact hge b hb'.2.2 (by omega) this.symm
  ·rw [xX (by omega)] at hk';rw [xX (by rw [h.len];omega),h.len] at hu;refine TrAt.move (fun b hb'=>⟨by omega,by rw [hsz];omega,fun e=>?_⟩) (fun b hb' hl=>(Qao (by omega)).trans (h56 b hl (hn5 b hb'.1))) _ _ (hK.2 _ k' u hk' hu);have:g=b:=by simpa [Value.ownBlock] using e
   exact hge b (hn5 b hb'.1) hb'.2 this.symm
 ·exact ⟨((hg.os.trans rfl).trans hr.os).trans h.rest.os,((hg.tape.trans rfl).trans hr.tape).trans h.rest.tape,((hg.output.trans rfl).trans hr.output).trans h.rest.output,by rw [hsz];have:=h.rest.size;omega,fun k hk hne=>(Qao (by omega)).trans ((hr6 k (by have:=h.rest.size;omega) hne (hlow k (by omega))).trans (h.rest.block k hk hne))⟩
 ·exact hd.other fun k hk=>(Qao (by omega)).trans (h56 k (by omega) (hlow k (by omega)))
 ·exact (Qao (by omega)).trans ((hr6 R (by omega) (by omega) (hlow R (by omega))).trans h.res)
theorem GrW.tr {B R L:Nat} {kd:Int} {tx:ByteArray} {w wr:World} {ks:List Tr} {us:List TV} {ka:Option Addr} {kc:Nat} (h:GrW B R L kd tx w wr ks us ka kc):TrAt (fun b=>L+1≤b∧b<wr.heap.size) wr (.mk kd tx [] ks) ⟨kd,tx,none,0,0,ka,ks.length,kc⟩:=by
 unfold TrAt;refine ⟨rfl,rfl,rfl,rfl,fun hne=>absurd rfl hne,fun hne=>?_,xA _,Qfj h.row⟩;have hn:0<ks.length:=List.length_pos_iff.2 hne;obtain ⟨g,cp,hv,hg1,hg2⟩:=World.ownsRow.form h.row hn;injection hv with hv1 hv2 hv3;subst hv1;have hcs:=h.row.cells (g:=g) rfl;have hadd:∀ j,((⟨g,0,none⟩:Addr).add j)=⟨g,j,none⟩:=fun j=>by unfold Addr.add;split <;> simp_all
 have hgc:∀ (j:Nat) (x:Value),(Qag us)[j]? = some x→wr.cell? ⟨g,j,none⟩=some x:=fun j x hx=>by
  have h:=hcs j x hx
  rwa [hadd] at h
 refine ⟨g,0,rfl,⟨by omega,hg2⟩,TrsAt.of ks 0 fun i t ht=>?_⟩;have hi:=(xP.1 ht).1;obtain ⟨u,hu⟩:∃ u,us[i]? = some u:=⟨_,xF (by rw [h.len];exact hi)⟩;obtain ⟨q0,q1,q2,q3⟩:=Qef us i u hu;rw [Nat.zero_add];exact ⟨u,hgc _ _ q0,hgc _ _ q1,hgc _ _ q2,hgc _ _ q3,TrAt.move (fun b hb=>⟨by omega,hb.2.1⟩) (fun _ _ _=>rfl) _ _ (h.kid i t u ht hu)⟩
theorem GrW.made {B n L:Nat} {kd:Int} {tx:ByteArray} {w wr:World} {ks:List Tr} {us:List TV} {ka:Option Addr} {kc:Nat} (h:GrW B w.heap.size L kd tx w wr ks us ka kc) (hx:szq tx≤7) (hS:1+Qaq ks≤n) (hB:B<w.heap.size) (hL:w.heap.size<L) :
  Qcb B n w (.returned (.agg #[.int .i64 kd,.string tx,.slice none 0 0,.slice ka ks.length kc])) (Qeg wr w.heap.size ⟨kd,tx,none,0,0,ka,ks.length,kc⟩):=by
 refine ⟨.mk kd tx [] ks,⟨kd,tx,none,0,0,ka,ks.length,kc⟩,rfl,?_,by rw [Qak];omega,Qbz.2 ⟨hx,by simp,by simp,h.tiny⟩,Qe0 _ (xA _) h.rest,Qe1 _ h.dice hB⟩;refine Qje (Zbc (lo:=w.heap.size+1) ?_ (by omega)) (by omega);unfold TrAt;refine ⟨rfl,rfl,rfl,rfl,fun hne=>absurd rfl hne,fun hne=>?_,xA _,Qfj h.row⟩;have hn:0<ks.length:=List.length_pos_iff.2 hne;obtain ⟨g,cp,hv,hg1,hg2⟩:=World.ownsRow.form h.row hn;injection hv with hv1 hv2 hv3;subst hv1;have hcs:=h.row.cells (g:=g) rfl;have hadd:∀ j,((⟨g,0,none⟩:Addr).add j)=⟨g,j,none⟩:=fun j=>by unfold Addr.add;split <;> simp_all
 have hgc:∀ (j:Nat) (x:Value),(Qag us)[j]? = some x→wr.cell? ⟨g,j,none⟩=some x:=fun j x hx=>by
  have h:=hcs j x hx
  rwa [hadd] at h
 refine ⟨g,0,rfl,⟨by omega,hg2⟩,TrsAt.of ks 0 fun i t ht=>?_⟩;have hi:=(xP.1 ht).1;obtain ⟨u,hu⟩:∃ u,us[i]? = some u:=⟨_,xF (by rw [h.len];exact hi)⟩;obtain ⟨q0,q1,q2,q3⟩:=Qef us i u hu;rw [Nat.zero_add];exact ⟨u,hgc _ _ q0,hgc _ _ q1,hgc _ _ q2,hgc _ _ q3,TrAt.move (fun b hb=>⟨by omega,hb.2.1⟩) (fun _ _ _=>rfl) _ _ (h.kid i t u ht hu)⟩
theorem Zel {B n L:Nat} {w w8:World} {t:Tr} {u:TV} (h:TrAt (fun b=>L<b∧b<w8.heap.size) w8 t u) (hL:w.heap.size<L) (hs:Qak t≤n) (ht:Qe6 t=true) (hB:B<w.heap.size) (hr:Rest1 B w w8) (hd:DiceAt B w8) (k:Int) (hk:t.kind=k∨t.kind=0) :
  Qxe B n k w (.returned (.agg #[.int .i64 u.kind,.string u.text,.slice u.la u.ll u.lc,.slice u.ka u.kl u.kc])) (Qeg (Qeg w8 L u) w.heap.size u):=by
 have h1:TrAt (fun b=>L<b∧b<(Qeg (Qeg w8 L u) w.heap.size u).heap.size) (Qeg (Qeg w8 L u) w.heap.size u) t u:=TrAt.move (fun b hb=>⟨hb.1,by rw [Qb3,Qb3];exact hb.2⟩) (fun b hb _=>(Qa1 u (by omega)).trans (Qa1 u (by omega))) _ _ h;exact ⟨t,u,rfl,TrAt.move (fun b hb=>⟨by omega,hb.2⟩) (fun _ _ _=>rfl) _ _ h1,hs,ht,Qe0 _ (xA _) (Qe0 _ (by omega) hr),Qe1 _ (Qe1 _ hd (by omega)) hB,hk⟩
theorem GrW.start {B R L:Nat} {kd:Int} {tx:ByteArray} {w wr:World} (hb:wr.heap[L]? = some (.cells #[.int .i64 kd,.string tx,.slice none 0 0,.slice none 0 0] 25 (0,0))) (hr:Rest1 B w wr) (hd:DiceAt B wr) (hx:wr.heap[R]? = some (.cells #[.int .i64 0,.string ⟨#[]⟩,.slice none 0 0,.slice none 0 0] 25 (0,0))):GrW B R L kd tx w wr [] [] none 0 :=
 ⟨rfl,hb,World.ownsRow_nil _ _ _ _,fun i k u h=>by simp at h,by rw [Qbm],hr,hd,hx⟩
def GrL (B R L:Nat) (kd:Int) (tx:ByteArray) (m:Nat) (w:World) (k:Value) (wr:World):Prop:=∃ (j:Nat) (ks:List Tr) (us:List TV) (ka:Option Addr) (kc:Nat),k = .int .i64 j∧j+ks.length≤3∧Qaq ks≤ks.length*m∧GrW B R L kd tx w wr ks us ka kc
theorem GrL.more {B R L m:Nat} {kd:Int} {tx:ByteArray} {w wr:World} {i:Nat} {ks:List Tr} {us:List TV} {ka:Option Addr} {kc:Nat} {t:Tr} {u:TV} (hj:i+1+ks.length≤3) (hs:Qaq ks≤ks.length*m) (ht:Qak t≤m) (h:GrW B R L kd tx w wr (ks ++ [t]) (us ++ [u]) ka kc):GrL B R L kd tx m w (.int .i64 i) wr:=by
 refine ⟨i,ks ++ [t],us ++ [u],ka,kc,rfl,by rw [xB,List.length_singleton];omega,?_,h⟩;rw [Qei,xB,List.length_singleton,Nat.add_mul,Nat.one_mul,Qaq,Qaq];omega
theorem GrL.size {m:Nat} {ks:List Tr} {j:Nat} (hj:j+ks.length≤3) (hs:Qaq ks≤ks.length*m):Qaq ks≤3*m:=xQ hs (Nat.mul_le_mul_right m (by omega))
theorem GrW.facts {B R L:Nat} {kd:Int} {tx:ByteArray} {w wr:World} {ks:List Tr} {us:List TV} {ka:Option Addr} {kc:Nat} (h:GrW B R L kd tx w wr ks us ka kc) {w5:World} (hr:Rest1 B wr w5) (hB:B<L):w5.heap[L]? = some (.cells #[.int .i64 kd,.string tx,.slice none 0 0,.slice ka ks.length kc] 25 (0,0)):=(hr.block L (Qaa h.blk) (by omega)).trans h.blk
theorem Qg5 {lo:Nat} {w:World} {t:Tr} {u:TV} (h:TrAt (fun b=>lo≤b∧b<w.heap.size) w t u):KidsFr lo w [t] [u]:=(KidsFr.nil lo w).snoc h
theorem Qf1 {L:Nat} {w5 w6:World} {o:Obj} {x:Obj} {r:Option Nat} (h:w5.heap[L]? = some x) (hg:(w5.alloc o).grownBy w6 r) (hr:r≠some L):w6.heap[L]? = some x :=
 (hg.block L (by rw [xI];have:=Qaa h;omega) (Ne.symm hr)).trans ((Below.heap_alloc w5 _ _ (Qaa h)).trans h)
theorem GrW.off {B R L:Nat} {kd:Int} {tx:ByteArray} {w wr:World} {ks:List Tr} {us:List TV} {ka:Option Addr} {kc:Nat} (h:GrW B R L kd tx w wr ks us ka kc):(Value.slice ka ks.length kc).ownBlock≠some L:=fun e=>by
 have:=(h.row.lt L e).1
 omega
theorem KidsFr.more {B lo:Nat} {w1 w2:World} {ks:List Tr} {us:List TV} {t:Tr} {u:TV} (h:KidsFr lo w1 ks us) (hr:Rest1 B w1 w2) (hB:B<lo) (ht:TrAt (fun b=>w1.heap.size≤b∧b<w2.heap.size) w2 t u) (hlo:lo≤w1.heap.size):KidsFr lo w2 (ks ++ [t]) (us ++ [u]) :=
 (h.move hr hB).snoc (Qje ht hlo)
theorem Zbf {lo:Nat} {w:World} {t:Tr} {u:TV} (k:Int) (x:ByteArray) (h:TrAt (fun b=>lo≤b∧b<w.heap.size) w t u) (hl:lo≤w.heap.size) (o:Obj) (ho:o = .cells (Qag [u]).toArray 25):TrAt (fun b=>lo≤b∧b<(w.alloc o).heap.size) (w.alloc o) (.mk k x [] [t]) ⟨k,x,none,0,0,some ⟨w.heap.size,0,none⟩,1,1⟩:=by
 subst ho;have hb:Below w.heap.size w (w.alloc (.cells (Qag [u]).toArray 25)):=(xC _ _).alloc (xA _) _;exact Qpo k x ((Qg5 h).keepB hb) (xH w _) hl 1 rfl
theorem Zii {B R L:Nat} {w w3 w6:World} {t1 t2:Tr} {u1 u2 v:TV} (k:Int) (s:ByteArray) (hB:B<w.heap.size) (hR:R=w.heap.size) (hL:L=w3.heap.size) (hRL:R<L) (h1:TrAt (fun b=>w.heap.size+1≤b∧b<w3.heap.size) w3 t1 u1) (h36:Rest1 B w3 w6)
  (h2:TrAt (fun b=>L<b∧b<w6.heap.size) w6 t2 u2) (hb:w6.heap[L]? = some (trO v)) (hr:Rest1 B w w6) (hd:DiceAt B w6) (hx:w6.heap[R]? = some (.cells #[.int .i64 0,.string ⟨#[]⟩,.slice none 0 0,.slice none 0 0] 25 (0,0))) :
  let V:TV:=⟨k,s,none,0,0,some ⟨w6.heap.size,0,none⟩,2,2⟩
  let W:=(Qeg w6 L V).alloc (.cells (Qag [u1,u2]).toArray 25)
  TrAt (fun b=>w.heap.size+1≤b∧b<W.heap.size) W (.mk k s [] [t1,t2]) V∧Rest1 B w W∧DiceAt B W∧W.heap[L]? = some (trO V)∧W.heap[R]? = some (.cells #[.int .i64 0,.string ⟨#[]⟩,.slice none 0 0,.slice none 0 0] 25 (0,0)):=by
 intro V W;have hL6:=Qaa hb;have hs0:(Qeg w6 L V).heap.size=w6.heap.size:=Qb3 _ _ _;have e1:TrAt (fun b=>w.heap.size+1≤b∧b<(Qeg w6 L V).heap.size) (Qeg w6 L V) t1 u1:=TrAt.move (fun b hb=>⟨hb.1,by rw [hs0];omega⟩) (fun b hb hl=>(Qa1 V (by omega)).trans (h36.block b hl (by omega))) _ _ h1;have e2:TrAt (fun b=>w.heap.size+1≤b∧b<(Qeg w6 L V).heap.size) (Qeg w6 L V) t2 u2:=TrAt.move (fun b hb=>⟨by omega,by rw [hs0];exact hb.2⟩) (fun b hb hl=>Qa1 V (by omega)) _ _ h2;have eb:Below (Qeg w6 L V).heap.size (Qeg w6 L V) W:=(xC _ _).alloc (xA _) _;have hr3:=Qe0 (R:=L) V (by omega:w.heap.size≤L) hr;have hd3:=Qe1 (R:=L) V hd (by omega);refine ⟨?_,hr3.trans (Rest1.below eb),hd3.keep eb,(eb.block L (by rw [hs0];exact hL6)).trans (Qfw V hb),(eb.block R (by rw [hs0];omega)).trans ((Qa1 V (by omega)).trans hx)⟩;exact Qpo (g:=w6.heap.size) k s (((Qg5 e1).snoc e2).keepB eb) (by rw [←hs0];exact xH _ _) (by omega) 2 rfl
theorem e0_0 (B:Nat) (w:World) (hd:DiceAt B w) (hn:Qff B w 14 0) :
  Calls Tryz.prog 101 #[.pointer (some ⟨B,0,none⟩),.int .i64 0] w (Qcb B 1 w):=by
 have HB:=hQ hd.lt;have HB0:=hQ ((xC w.heap.size w).alloc (xA _) (.cells #[.int .i64 0,.string ⟨#[]⟩,.slice none 0 0,.slice none 0 0] 25));have HX0:=hQ (xH w (.cells #[.int .i64 0,.string ⟨#[]⟩,.slice none 0 0,.slice none 0 0] 25));have HD0:=hQ (hd.keep HB0.out);have HR0:=hQ (Rest1.below (g:=B) HB0.out);have HN:=hQ (hn (w.alloc (.cells #[.int .i64 0,.string ⟨#[]⟩,.slice none 0 0,.slice none 0 0] 25)) fun k hk=>HB0.out.block k (by have:=HB.out;omega));clear hd hn
 go_enter Tryz.func101,Tryz.ntmps101
 go_wp2_with fail
 go_at_call 42;refine HN.out.mono ?_;rintro e w1 ⟨rfl,hrest,hd1⟩;have HD1:=hQ hd1;have HR1:=hQ (HR0.out.trans hrest);have HX1:=hQ ((hrest.block w.heap.size (Qaa HX0.out) (by have:=HB.out;omega)).trans HX0.out);have HS1:=hQ (show w.heap.size+1≤w1.heap.size from Qaa HX1.out);clear hrest hd1;go_wp2_with fail
 go_at_call 99;refine (Qch B 3 [(⟨#[120]⟩:ByteArray),(⟨#[121]⟩:ByteArray),(⟨#[122]⟩:ByteArray)] _ w1 HD1.out rfl rfl (by decide) (by decide) (by decide)).mono ?_;rintro e w2 ⟨p,rfl,hp,hrest,hd1⟩;have HD2:=hQ hd1;have HR2:=hQ (HR1.out.trans hrest);have HX2:=hQ ((hrest.block w.heap.size (Qaa HX1.out) (by have:=HB.out;omega)).trans HX1.out);have HS2:=hQ (show w.heap.size+1≤w2.heap.size from Qaa HX2.out);have HP:=hQ hp;clear hrest hd1 hp;obtain ⟨x0,x1,x2,x3,xl,xf⟩:=Qai HX2.out
 go_wp2
 refine bodyPost_ret (v:=.agg #[.int .i64 12,.string p,.slice none 0 0,.slice none 0 0]) (by simp [results,Tryz.results101,go_sem, *]) rfl ?_;exact Qa3 (12) p HP.out (by omega) HB.out HR2.out HD2.out
theorem e0_1 (B:Nat) (w:World) (hd:DiceAt B w) (hn:Qff B w 14 1) :
  Calls Tryz.prog 101 #[.pointer (some ⟨B,0,none⟩),.int .i64 0] w (Qcb B 1 w):=by
 have HB:=hQ hd.lt;have HB0:=hQ ((xC w.heap.size w).alloc (xA _) (.cells #[.int .i64 0,.string ⟨#[]⟩,.slice none 0 0,.slice none 0 0] 25));have HX0:=hQ (xH w (.cells #[.int .i64 0,.string ⟨#[]⟩,.slice none 0 0,.slice none 0 0] 25));have HD0:=hQ (hd.keep HB0.out);have HR0:=hQ (Rest1.below (g:=B) HB0.out);have HN:=hQ (hn (w.alloc (.cells #[.int .i64 0,.string ⟨#[]⟩,.slice none 0 0,.slice none 0 0] 25)) fun k hk=>HB0.out.block k (by have:=HB.out;omega));clear hd hn
 go_enter Tryz.func101,Tryz.ntmps101
 go_wp2_with fail
 go_at_call 42;refine HN.out.mono ?_;rintro e w1 ⟨rfl,hrest,hd1⟩;have HD1:=hQ hd1;have HR1:=hQ (HR0.out.trans hrest);have HX1:=hQ ((hrest.block w.heap.size (Qaa HX0.out) (by have:=HB.out;omega)).trans HX0.out);have HS1:=hQ (show w.heap.size+1≤w1.heap.size from Qaa HX1.out);clear hrest hd1;go_wp2_with fail
 go_at_call 99;refine (Qch B 3 [(⟨#[120]⟩:ByteArray),(⟨#[121]⟩:ByteArray),(⟨#[122]⟩:ByteArray)] _ w1 HD1.out rfl rfl (by decide) (by decide) (by decide)).mono ?_;rintro e w2 ⟨p,rfl,hp,hrest,hd1⟩;have HD2:=hQ hd1;have HR2:=hQ (HR1.out.trans hrest);have HX2:=hQ ((hrest.block w.heap.size (Qaa HX1.out) (by have:=HB.out;omega)).trans HX1.out);have HS2:=hQ (show w.heap.size+1≤w2.heap.size from Qaa HX2.out);have HP:=hQ hp;clear hrest hd1 hp;obtain ⟨x0,x1,x2,x3,xl,xf⟩:=Qai HX2.out
 go_wp2
 refine bodyPost_ret (v:=.agg #[.int .i64 12,.string p,.slice none 0 0,.slice none 0 0]) (by simp [results,Tryz.results101,go_sem, *]) rfl ?_;exact Qa3 (12) p HP.out (by omega) HB.out HR2.out HD2.out
theorem e0_2 (B:Nat) (w:World) (hd:DiceAt B w) (hn:Qff B w 14 2) :
  Calls Tryz.prog 101 #[.pointer (some ⟨B,0,none⟩),.int .i64 0] w (Qcb B 1 w):=by
 have HB:=hQ hd.lt;have HB0:=hQ ((xC w.heap.size w).alloc (xA _) (.cells #[.int .i64 0,.string ⟨#[]⟩,.slice none 0 0,.slice none 0 0] 25));have HX0:=hQ (xH w (.cells #[.int .i64 0,.string ⟨#[]⟩,.slice none 0 0,.slice none 0 0] 25));have HD0:=hQ (hd.keep HB0.out);have HR0:=hQ (Rest1.below (g:=B) HB0.out);have HN:=hQ (hn (w.alloc (.cells #[.int .i64 0,.string ⟨#[]⟩,.slice none 0 0,.slice none 0 0] 25)) fun k hk=>HB0.out.block k (by have:=HB.out;omega));clear hd hn
 go_enter Tryz.func101,Tryz.ntmps101
 go_wp2_with fail
 go_at_call 42;refine HN.out.mono ?_;rintro e w1 ⟨rfl,hrest,hd1⟩;have HD1:=hQ hd1;have HR1:=hQ (HR0.out.trans hrest);have HX1:=hQ ((hrest.block w.heap.size (Qaa HX0.out) (by have:=HB.out;omega)).trans HX0.out);have HS1:=hQ (show w.heap.size+1≤w1.heap.size from Qaa HX1.out);clear hrest hd1;go_wp2_with fail
 go_at_call 99;refine (Qch B 4 [(⟨#[48]⟩:ByteArray),(⟨#[49]⟩:ByteArray),(⟨#[50]⟩:ByteArray),(⟨#[49,48]⟩:ByteArray)] _ w1 HD1.out rfl rfl (by decide) (by decide) (by decide)).mono ?_;rintro e w2 ⟨p,rfl,hp,hrest,hd1⟩;have HD2:=hQ hd1;have HR2:=hQ (HR1.out.trans hrest);have HX2:=hQ ((hrest.block w.heap.size (Qaa HX1.out) (by have:=HB.out;omega)).trans HX1.out);have HS2:=hQ (show w.heap.size+1≤w2.heap.size from Qaa HX2.out);have HP:=hQ hp;clear hrest hd1 hp;obtain ⟨x0,x1,x2,x3,xl,xf⟩:=Qai HX2.out
 go_wp2
 refine bodyPost_ret (v:=.agg #[.int .i64 10,.string p,.slice none 0 0,.slice none 0 0]) (by simp [results,Tryz.results101,go_sem, *]) rfl ?_;exact Qa3 (10) p HP.out (by omega) HB.out HR2.out HD2.out
theorem e0_3 (B:Nat) (w:World) (hd:DiceAt B w) (hn:Qff B w 14 3) :
  Calls Tryz.prog 101 #[.pointer (some ⟨B,0,none⟩),.int .i64 0] w (Qcb B 1 w):=by
 have HB:=hQ hd.lt;have HB0:=hQ ((xC w.heap.size w).alloc (xA _) (.cells #[.int .i64 0,.string ⟨#[]⟩,.slice none 0 0,.slice none 0 0] 25));have HX0:=hQ (xH w (.cells #[.int .i64 0,.string ⟨#[]⟩,.slice none 0 0,.slice none 0 0] 25));have HD0:=hQ (hd.keep HB0.out);have HR0:=hQ (Rest1.below (g:=B) HB0.out);have HN:=hQ (hn (w.alloc (.cells #[.int .i64 0,.string ⟨#[]⟩,.slice none 0 0,.slice none 0 0] 25)) fun k hk=>HB0.out.block k (by have:=HB.out;omega));clear hd hn
 go_enter Tryz.func101,Tryz.ntmps101
 go_wp2_with fail
 go_at_call 42;refine HN.out.mono ?_;rintro e w1 ⟨rfl,hrest,hd1⟩;have HD1:=hQ hd1;have HR1:=hQ (HR0.out.trans hrest);have HX1:=hQ ((hrest.block w.heap.size (Qaa HX0.out) (by have:=HB.out;omega)).trans HX0.out);have HS1:=hQ (show w.heap.size+1≤w1.heap.size from Qaa HX1.out);clear hrest hd1;go_wp2_with fail
 go_at_call 99;refine (Qch B 3 [(⟨#[34,34]⟩:ByteArray),(⟨#[34,97,34]⟩:ByteArray),(⟨#[34,35,32,98,34]⟩:ByteArray)] _ w1 HD1.out rfl rfl (by decide) (by decide) (by decide)).mono ?_;rintro e w2 ⟨p,rfl,hp,hrest,hd1⟩;have HD2:=hQ hd1;have HR2:=hQ (HR1.out.trans hrest);have HX2:=hQ ((hrest.block w.heap.size (Qaa HX1.out) (by have:=HB.out;omega)).trans HX1.out);have HS2:=hQ (show w.heap.size+1≤w2.heap.size from Qaa HX2.out);have HP:=hQ hp;clear hrest hd1 hp;obtain ⟨x0,x1,x2,x3,xl,xf⟩:=Qai HX2.out
 go_wp2
 refine bodyPost_ret (v:=.agg #[.int .i64 11,.string p,.slice none 0 0,.slice none 0 0]) (by simp [results,Tryz.results101,go_sem, *]) rfl ?_;exact Qa3 (11) p HP.out (by omega) HB.out HR2.out HD2.out
theorem e0_4 (B:Nat) (w:World) (hd:DiceAt B w) (hn:Qff B w 14 4) :
  Calls Tryz.prog 101 #[.pointer (some ⟨B,0,none⟩),.int .i64 0] w (Qcb B 1 w):=by
 have HB:=hQ hd.lt;have HB0:=hQ ((xC w.heap.size w).alloc (xA _) (.cells #[.int .i64 0,.string ⟨#[]⟩,.slice none 0 0,.slice none 0 0] 25));have HX0:=hQ (xH w (.cells #[.int .i64 0,.string ⟨#[]⟩,.slice none 0 0,.slice none 0 0] 25));have HD0:=hQ (hd.keep HB0.out);have HR0:=hQ (Rest1.below (g:=B) HB0.out);have HN:=hQ (hn (w.alloc (.cells #[.int .i64 0,.string ⟨#[]⟩,.slice none 0 0,.slice none 0 0] 25)) fun k hk=>HB0.out.block k (by have:=HB.out;omega));clear hd hn
 go_enter Tryz.func101,Tryz.ntmps101
 go_wp2_with fail
 go_at_call 42;refine HN.out.mono ?_;rintro e w1 ⟨rfl,hrest,hd1⟩;have HD1:=hQ hd1;have HR1:=hQ (HR0.out.trans hrest);have HX1:=hQ ((hrest.block w.heap.size (Qaa HX0.out) (by have:=HB.out;omega)).trans HX0.out);have HS1:=hQ (show w.heap.size+1≤w1.heap.size from Qaa HX1.out);clear hrest hd1;go_wp2_with fail
 go_at_call 42;refine (Qb9 B 2 _ HD1.out (by decide) (by decide)).mono ?_;rintro e w2 ⟨q,rfl,q0,q1,hrest,hd1⟩;have HD2:=hQ hd1;have HR2:=hQ (HR1.out.trans hrest);have HX2:=hQ ((hrest.block w.heap.size (Qaa HX1.out) (by have:=HB.out;omega)).trans HX1.out);have HS2:=hQ (show w.heap.size+1≤w2.heap.size from Qaa HX2.out);clear hrest hd1;obtain ⟨x0,x1,x2,x3,xl,xf⟩:=Qai HX2.out
 go_wp2
 refine bodyPost_ret (v:=.agg #[.int .i64 (13+q),.string ⟨#[]⟩,.slice none 0 0,.slice none 0 0]) (by simp [results,Tryz.results101,go_sem, *]) rfl ?_;exact Qa3 (13+q) ⟨#[]⟩ (by decide) (by omega) HB.out HR2.out HD2.out
theorem es_4 (B:Nat) (d:Int) (n:Nat) (h1:1≤d) (h3:d≤3) (ih:∀ w,DiceAt B w→Calls Tryz.prog 101 #[.pointer (some ⟨B,0,none⟩),.int .i64 (d-1)] w (Qcb B n w)) (w:World) (hd:DiceAt B w) (hn:Qff B w 14 4) :
  Calls Tryz.prog 101 #[.pointer (some ⟨B,0,none⟩),.int .i64 d] w (Qcb B (3*n+6) w):=by
 have HB:=hQ hd.lt;have HB0:=hQ ((xC w.heap.size w).alloc (xA _) (.cells #[.int .i64 0,.string ⟨#[]⟩,.slice none 0 0,.slice none 0 0] 25));have HX0:=hQ (xH w (.cells #[.int .i64 0,.string ⟨#[]⟩,.slice none 0 0,.slice none 0 0] 25));have HD0:=hQ (hd.keep HB0.out);have HR0:=hQ (Rest1.below (g:=B) HB0.out);have HN:=hQ (hn (w.alloc (.cells #[.int .i64 0,.string ⟨#[]⟩,.slice none 0 0,.slice none 0 0] 25)) fun k hk=>HB0.out.block k (by have:=HB.out;omega));have IH:=hQ ih;clear hd hn ih
 go_enter Tryz.func101,Tryz.ntmps101
 go_wp2_with fail
 go_at_call 42;refine HN.out.mono ?_;rintro e w1 ⟨rfl,hrest,hd1⟩;have HD1:=hQ hd1;have HR1:=hQ (HR0.out.trans hrest);have HX1:=hQ ((hrest.block w.heap.size (Qaa HX0.out) (by have:=HB.out;omega)).trans HX0.out);have HS1:=hQ (show w.heap.size+1≤w1.heap.size from Qaa HX1.out);clear hrest hd1;go_wp2_with fail
 go_at_call 42;refine (Qb9 B 2 _ HD1.out (by decide) (by decide)).mono ?_;rintro e w2 ⟨q,rfl,q0,q1,hrest,hd1⟩;have HD2:=hQ hd1;have HR2:=hQ (HR1.out.trans hrest);have HX2:=hQ ((hrest.block w.heap.size (Qaa HX1.out) (by have:=HB.out;omega)).trans HX1.out);have HS2:=hQ (show w.heap.size+1≤w2.heap.size from Qaa HX2.out);clear hrest hd1;obtain ⟨x0,x1,x2,x3,xl,xf⟩:=Qai HX2.out
 go_wp2
 refine bodyPost_ret (v:=.agg #[.int .i64 (13+q),.string ⟨#[]⟩,.slice none 0 0,.slice none 0 0]) (by simp [results,Tryz.results101,go_sem, *]) rfl ?_;exact Qa3 (13+q) ⟨#[]⟩ (by decide) (by omega) HB.out HR2.out HD2.out
theorem es_5 (B:Nat) (d:Int) (n:Nat) (h1:1≤d) (h3:d≤3) (ih:∀ w,DiceAt B w→Calls Tryz.prog 101 #[.pointer (some ⟨B,0,none⟩),.int .i64 (d-1)] w (Qcb B n w)) (w:World) (hd:DiceAt B w) (hn:Qff B w 14 5) :
  Calls Tryz.prog 101 #[.pointer (some ⟨B,0,none⟩),.int .i64 d] w (Qcb B (3*n+6) w):=by
 have HB:=hQ hd.lt;have HB0:=hQ ((xC w.heap.size w).alloc (xA _) (.cells #[.int .i64 0,.string ⟨#[]⟩,.slice none 0 0,.slice none 0 0] 25));have HX0:=hQ (xH w (.cells #[.int .i64 0,.string ⟨#[]⟩,.slice none 0 0,.slice none 0 0] 25));have HD0:=hQ (hd.keep HB0.out);have HR0:=hQ (Rest1.below (g:=B) HB0.out);have HN:=hQ (hn (w.alloc (.cells #[.int .i64 0,.string ⟨#[]⟩,.slice none 0 0,.slice none 0 0] 25)) fun k hk=>HB0.out.block k (by have:=HB.out;omega));have IH:=hQ ih;clear hd hn ih
 go_enter Tryz.func101,Tryz.ntmps101
 go_wp2_with fail
 go_at_call 42;refine HN.out.mono ?_;rintro e w1 ⟨rfl,hrest,hd1⟩;have HD1:=hQ hd1;have HR1:=hQ (HR0.out.trans hrest);have HX1:=hQ ((hrest.block w.heap.size (Qaa HX0.out) (by have:=HB.out;omega)).trans HX0.out);have HS1:=hQ (show w.heap.size+1≤w1.heap.size from Qaa HX1.out);clear hrest hd1;go_wp2_with fail
 go_at_call 42;refine (Qb9 B 3 _ HD1.out (by decide) (by decide)).mono ?_;rintro e w2 ⟨q,rfl,q0,q1,hrest,hd1⟩;have HD2:=hQ hd1;have HR2:=hQ (HR1.out.trans hrest);have HX2:=hQ ((hrest.block w.heap.size (Qaa HX1.out) (by have:=HB.out;omega)).trans HX1.out);have HS2:=hQ (show w.heap.size+1≤w2.heap.size from Qaa HX2.out);clear hrest hd1
 by_cases hq:q=0
 ·subst hq;obtain ⟨x0,x1,x2,x3,xl,xf⟩:=Qai HX2.out
  go_wp2
  refine bodyPost_ret (v:=.agg #[.int .i64 15,.string ⟨#[]⟩,.slice none 0 0,.slice none 0 0]) (by simp [results,Tryz.results101,go_sem, *]) rfl ?_;exact Qa3 (15) ⟨#[]⟩ (by decide) (by omega) HB.out HR2.out HD2.out
 ·have hq2:decide (q=0)=false:=xR hq;have hq3:(q==0)=false:=by simpa using hq
  obtain ⟨x0,x1,x2,x3,xl,xf⟩:=Qai HX2.out
  go_wp2
  refine bodyPost_ret (v:=.agg #[.int .i64 10,.string ⟨#[51]⟩,.slice none 0 0,.slice none 0 0]) (by simp [results,Tryz.results101,go_sem, *]) rfl ?_;exact Qa3 (10) ⟨#[51]⟩ (by decide) (by omega) HB.out HR2.out HD2.out
theorem es_8 (B:Nat) (d:Int) (n:Nat) (h1:1≤d) (h3:d≤3) (ih:∀ w,DiceAt B w→Calls Tryz.prog 101 #[.pointer (some ⟨B,0,none⟩),.int .i64 (d-1)] w (Qcb B n w)) (w:World) (hd:DiceAt B w) (hn:Qff B w 14 8) :
  Calls Tryz.prog 101 #[.pointer (some ⟨B,0,none⟩),.int .i64 d] w (Qcb B (3*n+6) w):=by
 have HB:=hQ hd.lt;have HB0:=hQ ((xC w.heap.size w).alloc (xA _) (.cells #[.int .i64 0,.string ⟨#[]⟩,.slice none 0 0,.slice none 0 0] 25));have HX0:=hQ (xH w (.cells #[.int .i64 0,.string ⟨#[]⟩,.slice none 0 0,.slice none 0 0] 25));have HD0:=hQ (hd.keep HB0.out);have HR0:=hQ (Rest1.below (g:=B) HB0.out);have HN:=hQ (hn (w.alloc (.cells #[.int .i64 0,.string ⟨#[]⟩,.slice none 0 0,.slice none 0 0] 25)) fun k hk=>HB0.out.block k (by have:=HB.out;omega));have IH:=hQ ih;clear hd hn ih
 go_enter Tryz.func101,Tryz.ntmps101
 go_wp2_with fail
 go_at_call 42;refine HN.out.mono ?_;rintro e w1 ⟨rfl,hrest,hd1⟩;have HD1:=hQ hd1;have HR1:=hQ (HR0.out.trans hrest);have HX1:=hQ ((hrest.block w.heap.size (Qaa HX0.out) (by have:=HB.out;omega)).trans HX0.out);have HS1:=hQ (show w.heap.size+1≤w1.heap.size from Qaa HX1.out);clear hrest hd1;have HWL:=hQ ((xC w1.heap.size w1).alloc (xA _) (.cells #[.int .i64 18,.string ⟨#[]⟩,.slice none 0 0,.slice none 0 0] 25));have HBK:=hQ (xH w1 (.cells #[.int .i64 18,.string ⟨#[]⟩,.slice none 0 0,.slice none 0 0] 25));have HDL:=hQ (HD1.out.keep HWL.out);have HRL:=hQ (HR1.out.trans (Rest1.below HWL.out));have HXL:=hQ ((HWL.out.block w.heap.size (Qaa HX1.out)).trans HX1.out);have HLL:=hQ (show w.heap.size<w1.heap.size from HS1.out);go_wp2_with fail
 go_at_call 42;refine (Qb9 B 3 _ HDL.out (by decide) (by decide)).mono ?_;rintro e w2 ⟨q,rfl,q0,q1,hrest,hd1⟩;have HGJ:=hQ (GrW.start (tx:=⟨#[]⟩) (kd:=18) ((hrest.block w1.heap.size (Qaa HBK.out) (by have:=HB.out;have:=HLL.out;omega)).trans HBK.out) (HRL.out.trans hrest) hd1 ((hrest.block w.heap.size (Qaa HXL.out) (by have:=HB.out;omega)).trans HXL.out));clear hrest hd1;obtain ⟨q,rfl⟩:∃ z:Nat,q=(z:Int):=⟨q.toNat,by omega⟩
 go_wp2
 go_loopw [9] (fun k wr=>GrL B w.heap.size w1.heap.size 18 ⟨#[]⟩ n w k wr) (fun k _=>(intOf k).toNat)
 case atStart=>exact ⟨q+1,[],[],none,0,by go_num,by simp;omega,by rw [Qaq];exact xZ _,HGJ.out⟩
 case round =>
  obtain ⟨j,ks,us,ka,kc,rfl,hj,hs,hg⟩:=hrel;have HG:=hQ hg;have HJ:=hQ hj;have HSZ:=hQ hs;have HBL:=hQ (show B<w1.heap.size from by have:=HB.out;have:=HLL.out;omega);obtain ⟨it,hit,ht0,ht1,ht2⟩:=info_parts Qcd;cases j with
  | zero =>
   obtain ⟨x0,x1,x2,x3,xl,xf⟩:=Qai hg.res;obtain ⟨y0,y1,y2,y3,yl,yf⟩:=Qai hg.blk;clear hj hs hg
   go_wp2
   refine bodyPost_ret (v:=.agg #[.int .i64 18,.string ⟨#[]⟩,.slice none 0 0,.slice ka ks.length kc]) (by simp [results,Tryz.results101,go_sem, *]) rfl ?_;exact HG.out.made (by decide) (by have:=GrL.size HJ.out HSZ.out;omega) HB.out HLL.out
  | succ i =>
   have g3:wr.cell? ⟨w1.heap.size,3,none⟩=some (.slice ka ks.length kc):=Qab hg.blk 3 _ rfl;have gl:w1.heap.size<wr.heap.size:=Qaa hg.blk;have gf:wr.frozen? ⟨w1.heap.size,3,none⟩=false:=xL hg.blk _;have HB1:=hQ (show ks.length+1≤maxLen from by unfold maxLen;omega);have HB2:=hQ (show (ks.length+1)*72≤140737488355328 from by omega);have hi:(i:Int)≤3:=by omega
   have hi0:(0:Int)≤(i:Int):=by omega
   clear hj hs hg;have hwd:IntKind.i64.wrap (d-1)=d-1:=IntWalk.i64_in _ (by omega);go_wp2_with fail
   go_region_law (first
    | (go_simp;go_at_call 101;refine (IH.out _ HG.out.dice.drew).mono ?_;rintro e w5 ⟨t,u,rfl,ht,hz,hy,hrest0,hd5⟩;have hrest:=hrest0.ofDrew;have HT:=hQ (show TrAt (fun b=>wr.heap.size≤b∧b<w5.heap.size) w5 t u from ht);have HZ:=hQ hz;have HY:=hQ hy;have HR5:=hQ hrest;have HD5:=hQ hd5;have HO5:=hQ (Qdj HG.out.row hrest (by have:=HBL.out;omega));have HL5:=hQ (HG.out.facts hrest HBL.out);clear ht hz hy hrest hrest0 hd5 g3 gl gf;have g3:w5.cell? ⟨w1.heap.size,3,none⟩=some (.slice ka ks.length kc):=Qab HL5.out 3 _ rfl;have gl:w1.heap.size<w5.heap.size:=Qaa HL5.out;have gf:w5.frozen? ⟨w1.heap.size,3,none⟩=false:=xL HL5.out _)
    | (refine step_append_lies _ (by rfl) _ _ _ (by rfl) (w1.heap.size+1) 25 it _ 4 72 Tryz.underlying22 hit ht0 ht1 ht2 rfl (by decide) (.slice ka ks.length kc) ks.length (Qag us) (by rfl) (HO5.out.alloc _) ⟨w5.heap.size,0,none⟩ 1 1 (Qag [u]) (by rfl) (by rfl) (xM (cs:=(Qag [u]).toArray) (t:=25) (fr:=(0,0)) (xH w5 (.cells (Qag [u]).toArray 25))) (Qcv [u]) (by decide) HB1.out HB2.out (by rw [xI];have:=Qaa HL5.out;omega) (w5.heap.size+1) (by simp) ?_;intro g cap w7 ho7 hg7 hat7 hlt7;have HO7:=hQ ho7;have HG7:=hQ hg7;have HAT7:=hQ hat7;have hx7:=hQ (Qf1 (w5:=w5) HL5.out hg7 HG.out.off);clear ho7 hg7 hat7 hlt7 g3 gl gf;have g3:w7.cell? ⟨w1.heap.size,3,none⟩=some (.slice ka ks.length kc):=Qab hx7.out 3 _ rfl;have gl:w1.heap.size<w7.heap.size:=Qaa hx7.out;have gf:w7.frozen? ⟨w1.heap.size,3,none⟩=false:=xL hx7.out _;clear hx7))
   all_goals
    go_wp2
    go_roundw
    case measure=>first | (simp [intOf];done) | (simp [intOf];omega)
    case rel=>exact GrL.more HJ.out HSZ.out HZ.out (HG.out.next HB.out HLL.out (by have:=HLL.out;omega) (Qg5 HT.out) (by rw [Qbm,HY.out,Qbm];rfl) HR5.out HD5.out rfl HO7.out HG7.out HAT7.out)
end Go.Proofs.YtfjpemdejoejbaaGreat
