/- Part 36 -/
import Derived.Test.YtfjpemdejoejbaaGreatSg20
set_option maxRecDepth 100000
set_option maxHeartbeats 4000000
namespace Go.Proofs.YtfjpemdejoejbaaGreat
open Go.RowKit Go.Shelf
def DiceAt (B:Nat) (w:World):Prop:=∃ (A:Option Addr) (c k:Nat) (xs:List Int),w.heap[B]? = some (.cells #[.slice A xs.length c,.int .i64 k] 107 (0,0))∧xs.length≤120∧k≤xs.length∧xs.length≤c ∧
 (xs≠[]→∃ b off,A=some ⟨b,off,none⟩∧b<B∧∀ (i:Nat) (x:Int),xs[i]? = some x→w.cell? ⟨b,off+i,none⟩=some (.int .i64 x))
theorem DiceAt.lt {B:Nat} {w:World} (h:DiceAt B w):B<w.heap.size:=by
 obtain ⟨_,_,_,_,hh,_⟩:=h;exact Qaa hh
theorem DiceAt.other {B:Nat} {w w':World} (h:DiceAt B w) (hb:∀ k,k≤B→w'.heap[k]? = w.heap[k]?):DiceAt B w':=by
 obtain ⟨A,c,k,xs,h1,h2,h3,h4,h5⟩:=h;refine ⟨A,c,k,xs,(hb B (xA _)).trans h1,h2,h3,h4,fun hne=>?_⟩;obtain ⟨b,off,q1,q2,q3⟩:=h5 hne;exact ⟨b,off,q1,q2,fun i x hx=>(xJ (w:=w) (a:=⟨b,off+i,none⟩) (hb b (Nat.le_of_lt q2))).trans (q3 i x hx)⟩
theorem DiceAt.keep {B:Nat} {w w':World} (h:DiceAt B w) (hb:Below w.heap.size w w'):DiceAt B w':=h.other fun k hk=>hb.block k (Nat.lt_of_le_of_lt hk h.lt)
theorem DiceAt.next {B k:Nat} {w:World} {A:Option Addr} {c:Nat} {xs:List Int} (h1:w.heap[B]? = some (.cells #[.slice A xs.length c,.int .i64 k] 107 (0,0))) (h2:xs.length≤120) (h3:k<xs.length) (h4:xs.length≤c)
  (h5:xs≠[]→∃ b off,A=some ⟨b,off,none⟩∧b<B∧∀ (i:Nat) (x:Int),xs[i]? = some x→w.cell? ⟨b,off+i,none⟩=some (.int .i64 x)):DiceAt B (w.setCell ⟨B,1,none⟩ (.int .i64 ((k:Int)+1))):=by
 refine ⟨A,c,k+1,xs,Qay h1 rfl,h2,by omega,h4,fun hne=>?_⟩;obtain ⟨b,off,q1,q2,q3⟩:=h5 hne;exact ⟨b,off,q1,q2,fun i x hx=>(xJ (w:=w) (a:=⟨b,off+i,none⟩) (Qao (k:=b) (by omega))).trans (q3 i x hx)⟩
def Zif (B:Nat) (m:Int) (w:World) (e:Ending) (w':World):Prop:=∃ r:Int,e = .returned (.int .i64 r)∧0≤r∧r<m∧Rest1 B w w'∧DiceAt B w'
theorem Rest1.drewN {g:Nat} {w w':World} (h:Rest1 g w w') (n:Nat):Rest1 g w (w'.drewN n):=h.trans ⟨rfl,rfl,rfl,xA _,fun _ _ _=>rfl⟩
theorem DiceAt.drewN {B:Nat} {w:World} (h:DiceAt B w) (n:Nat):DiceAt B (w.drewN n):=h.other fun _ _=>rfl
def Qff (B:Nat) (w:World) (m r:Int):Prop:=∀ w',(∀ k,k≤B→w'.heap[k]? = w.heap[k]?)→Calls Tryz.prog 42 #[.pointer (some ⟨B,0,none⟩),.int .i64 m] w' fun e w''=>e = .returned (.int .i64 r)∧Rest1 B w' w''∧DiceAt B w''
theorem Qux (B:Nat) (m:Int) (W:World) (hD:DiceAt B W) (h1:1≤m) (h2:m≤1000):∃ r:Int,0≤r∧r<m∧Qff B W m r:=by
 obtain ⟨A,c,k,xs,Q1,q2,q3,q4,Q5⟩:=hD
 by_cases hk:k<xs.length
 ·obtain ⟨b,off,hA,hne,hcs⟩:=Q5 (by intro e;rw [e] at hk;simp at hk);obtain ⟨x,hx⟩:∃ x,xs[k]? = some x:=⟨_,xF hk⟩;refine ⟨Ze7 x m,(Qs5 x (m:=m) (by omega)).1,(Qs5 x (m:=m) (by omega)).2,fun w hb=>?_⟩;have q1:=(hb B (xA _)).trans Q1;have q5:xs≠[]→∃ b off,A=some ⟨b,off,none⟩∧b<B∧∀ (i:Nat) (x:Int),xs[i]? = some x→w.cell? ⟨b,off+i,none⟩=some (.int .i64 x):=fun _=>⟨b,off,hA,hne,fun i x hi=>(xJ (w:=W) (a:=⟨b,off+i,none⟩) (hb b (Nat.le_of_lt hne))).trans (hcs i x hi)⟩
  have hcx:=(xJ (w:=W) (a:=⟨b,off+k,none⟩) (hb b (Nat.le_of_lt hne))).trans (hcs k x hx);have HD:=hQ (show DiceAt B w from ⟨A,c,k,xs,q1,q2,q3,q4,q5⟩);subst hA;have c0:=Qab q1 0 _ rfl;have c1:=Qab q1 1 _ rfl;have hbl:=Qaa q1;have hfr:=xL q1;have d1:decide (xs.length≤k)=false:=xR (by omega);have hcb:=xK w _ hcx;have HN:=hQ (fun n=>DiceAt.next (w:=w.drewN n) q1 q2 hk q4 q5);have HNE:=hQ hne;have HQ:=hQ q1;have HCX:=hQ hcx;clear q1 q5 hcs hx Q1 Q5 hb
  go_enter Tryz.func42,Tryz.ntmps42
  go_wp2
  go_quiet (fail)
  go_wp2
  have hb1:((w.drewN nq).setCell ⟨B,1,none⟩ (.int .i64 ((k:Int)+1))).heap[B]? = some (.cells #[.slice (some ⟨b,off,none⟩) xs.length c,.int .i64 ((k:Int)+1)] 107 (0,0)):=Qay (w:=w.drewN nq) HQ.out rfl;have hcz:((w.drewN nq).setCell ⟨B,1,none⟩ (.int .i64 ((k:Int)+1))).cell? ⟨b,off+k,none⟩=some (.int .i64 x):=(xJ (w:=w) (a:=⟨b,off+k,none⟩) (Qao (w:=w.drewN nq) (k:=b) (by have:=HNE.out;omega))).trans HCX.out;have HRW:=hQ (show Rest1 B w ((w.drewN nq).setCell ⟨B,1,none⟩ (.int .i64 ((k:Int)+1))) from ((Rest1.below (xC _ _)).drewN nq).trans (Rest1.set _ B 1 _));have HDW:=hQ (HN.out nq)
  generalize ((w.drewN nq).setCell ⟨B,1,none⟩ (.int .i64 ((k:Int)+1)))=W2 at *
  clear c0 c1 hbl hfr hcx hcb;have c0:=Qab hb1 0 _ rfl;have c1:=Qab hb1 1 _ rfl;have hbl:=Qaa hb1;have hcb:=xK W2 _ hcz;have k1:(k:Int)+1-1=(k:Int):=by omega
  have k2:(0:Int)≤(k:Int):=by omega
  have k3:(k:Int)<(xs.length:Int):=by omega
  clear hb1
  go_quiet ((go_at_call 21;exact Calls.quiet_of_same ((Qs6 _ _ _ (by omega) (by omega)).mono fun _ _ h=>⟨h.1,h.2.symm⟩)))
  go_wp2
  go_ret
  exact ⟨rfl,HRW.out.drewN _,HDW.out.drewN _⟩
 ·obtain rfl:k=xs.length:=by omega
  refine ⟨0,by omega,by omega,fun w hb=>?_⟩;have q1:=(hb B (xA _)).trans Q1;have HD:=hQ (DiceAt.other (w:=W) ⟨A,c,xs.length,xs,Q1,q2,q3,q4,Q5⟩ hb);have d1:decide (xs.length≤xs.length)=true:=xS (xA _);have c0:=Qab q1 0 _ rfl;have c1:=Qab q1 1 _ rfl;have hbl:=Qaa q1;have hfr:=xL q1;clear q1 Q1 Q5 hb
  go_enter Tryz.func42,Tryz.ntmps42
  go_wp2
  go_quiet (fail)
  go_wp2
  go_ret
  exact ⟨rfl,(Rest1.below (xC _ _)).drewN _,HD.out.drewN _⟩
theorem Qb9 (B:Nat) (m:Int) (w:World) (hd:DiceAt B w) (h1:1≤m) (h2:m≤1000):Calls Tryz.prog 42 #[.pointer (some ⟨B,0,none⟩),.int .i64 m] w (Zif B m w):=by
 obtain ⟨r,h3,h4,h5⟩:=Qux B m w hd h1 h2;refine (h5 w fun _ _=>rfl).mono ?_;rintro e w' ⟨q1,q2,q3⟩;exact ⟨r,q1,h3,h4,q2,q3⟩
def szq (x:ByteArray):Nat:=if x.data.toList = [113] then 8 else x.size
theorem Zig {x:ByteArray} (h:szq x≤7):x.size≤7:=by
 unfold szq at h
 split at h <;> omega
theorem Zih {x:ByteArray} (h:szq x≤7):x≠⟨#[113]⟩:=by
 rintro rfl;exact absurd h (by decide)
mutual
def Qe6:Tr→Bool
 | .mk _ x ls ks=>decide (szq x≤7) && decide (ls.length≤ks.length+6) && ls.all (fun y=>decide (y.size≤5)) && Qbm ks
def Qbm:List Tr→Bool
 | []=>true
 | t :: r=>Qe6 t && Qbm r
end
theorem Qgz:(a b:List Tr)→Qbm (a ++ b)=(Qbm a && Qbm b)
 | [],b=>by rw [xU,Qbm,Bool.true_and]
 | t :: r,b=>by rw [xV,Qbm,Qgz r b,Qbm,Bool.and_assoc]
theorem Qir:(l:List Tr)→(j:Nat)→(k:Tr)→Qbm l=true→l[j]? = some k→Qe6 k=true
 | [],j,k,_,hk=>by simp at hk
 | t :: r,j,k,h,hk=>by
  rw [Qbm,Bool.and_eq_true] at h;cases j with
  | zero=>simp at hk;subst hk;exact h.1
  | succ j=>exact Qir r j k h.2 (by simpa using hk)
theorem Qbz {k:Int} {x:ByteArray} {ls:List ByteArray} {ks:List Tr}:Qe6 (.mk k x ls ks)=true ↔ szq x≤7∧ls.length≤ks.length+6∧(∀ y∈ls,y.size≤5)∧Qbm ks=true:=by
 rw [Qe6,Bool.and_eq_true,Bool.and_eq_true,Bool.and_eq_true,decide_eq_true_iff,decide_eq_true_iff,List.all_eq_true];simp only [decide_eq_true_iff];exact ⟨fun h=>⟨h.1.1.1,h.1.1.2,h.1.2,h.2⟩,fun h=>⟨⟨⟨h.1,h.2.1⟩,h.2.2.1⟩,h.2.2.2⟩⟩
theorem Zbb:(l:List ByteArray)→(∀ y∈l,y.size≤5)→szB l≤5*l.length
 | [],_=>by rw [szB];omega
 | y :: r,h=>by
  have h1:=Zbb r (fun z hz=>h z (by simp [hz]));have h2:=h y (by simp);rw [szB,xD];omega
mutual
theorem Ql3:(t:Tr)→Qe6 t=true→Qry t+7≤60*Qak t
 | .mk k x ls ks,h=>by
  obtain ⟨h1',h2,h3,h4⟩:=Qbz.1 h;have h1:=Zig h1';have h5:=Qre ks h4;have h6:=Zbb ls h3;rw [Qry,Qak];omega
theorem Qre:(l:List Tr)→Qbm l=true→7*l.length+Qwi l≤60*Qaq l
 | [],_=>by rw [Qwi,Qaq];simp
 | t :: r,h=>by
  rw [Qbm,Bool.and_eq_true] at h;have h1:=Ql3 t h.1;have h2:=Qre r h.2;rw [Qwi,Qaq,xD];omega
end
def KidsFr (lo:Nat) (w:World) (ks:List Tr) (us:List TV):Prop:=us.length=ks.length∧∀ (i:Nat) (k:Tr) (u:TV),ks[i]? = some k→us[i]? = some u→TrAt (fun b=>lo≤b∧b<w.heap.size) w k u
theorem KidsFr.nil (lo:Nat) (w:World):KidsFr lo w [] []:=⟨rfl,fun i k u h=>by simp at h⟩
theorem KidsFr.snoc {lo:Nat} {w:World} {ks:List Tr} {us:List TV} (h:KidsFr lo w ks us) {k:Tr} {u:TV} (hu:TrAt (fun b=>lo≤b∧b<w.heap.size) w k u):KidsFr lo w (ks ++ [k]) (us ++ [u]):=by
 refine ⟨by simp [h.1],fun i k' u' hk hu'=>?_⟩
 by_cases hi:i<ks.length
 ·rw [yB hi] at hk;rw [yB (by rw [h.1];exact hi)] at hu';exact h.2 i k' u' hk hu'
 ·have hl:=(xP.1 hk).1;rw [xB,List.length_singleton] at hl;obtain rfl:i=ks.length:=by omega
  rw [xX (xA _),Nat.sub_self] at hk;rw [←h.1,xX (xA _),Nat.sub_self] at hu';injection hk with hk;injection hu' with hu';subst hk hu';exact hu
theorem KidsFr.move {B lo:Nat} {w w':World} {ks:List Tr} {us:List TV} (h:KidsFr lo w ks us) (hr:Rest1 B w w') (hB:B<lo):KidsFr lo w' ks us :=
 ⟨h.1,fun i k u hk hu=>TrAt.move (fun b hb=>⟨hb.1,xE hb.2 hr.size⟩) (fun b hb hl=>hr.block b hl (by omega)) _ _ (h.2 i k u hk hu)⟩
theorem Zg3 {B a lo:Nat} {w w':World} {t:Tr} {u:TV} (h:TrAt (fun b=>a≤b∧b<w.heap.size) w t u) (hr:Rest1 B w w') (hB:B<a) (hl:lo≤a):TrAt (fun b=>lo≤b∧b<w'.heap.size) w' t u :=
 TrAt.move (fun b hb=>⟨by omega,xE hb.2 hr.size⟩) (fun b hb hlt=>hr.block b hlt (by omega)) _ _ h
theorem Zbc {R lo:Nat} {w:World} {t:Tr} {u v:TV} (h:TrAt (fun b=>lo≤b∧b<w.heap.size) w t u) (hR:R<lo):TrAt (fun b=>lo≤b∧b<(Qeg w R v).heap.size) (Qeg w R v) t u :=
 TrAt.move (fun b hb=>⟨hb.1,by rw [Qb3];exact hb.2⟩) (fun b hb _=>Qa1 _ (by omega)) _ _ h
theorem Qje {a lo:Nat} {w:World} {t:Tr} {u:TV} (h:TrAt (fun b=>a≤b∧b<w.heap.size) w t u) (hl:lo≤a):TrAt (fun b=>lo≤b∧b<w.heap.size) w t u :=
 TrAt.move (fun b hb=>⟨by omega,hb.2⟩) (fun _ _ _=>rfl) _ _ h
theorem Zbd (S:Nat→Prop) (w:World) (k:Int) (x:ByteArray):TrAt S w (.mk k x [] []) ⟨k,x,none,0,0,none,0,0⟩:=by
 unfold TrAt;exact ⟨rfl,rfl,rfl,rfl,fun h=>absurd rfl h,fun h=>absurd rfl h,xA _,xA _⟩
theorem Qpo {lo g:Nat} {w:World} {ks:List Tr} {us:List TV} (k:Int) (x:ByteArray) (h:KidsFr lo w ks us) (hg:w.heap[g]? = some (.cells (Qag us).toArray 25 (0,0))) (hl:lo≤g) (n:Nat) (hn:n=us.length) :
  TrAt (fun b=>lo≤b∧b<w.heap.size) w (.mk k x [] ks) ⟨k,x,none,0,0,some ⟨g,0,none⟩,n,n⟩:=by
 subst hn;unfold TrAt;refine ⟨rfl,rfl,rfl,h.1,fun hne=>absurd rfl hne,fun _=>⟨g,0,rfl,⟨hl,Qaa hg⟩,TrsAt.of ks 0 fun i t ht=>?_⟩,xA _,xA _⟩;have hi:=(xP.1 ht).1;obtain ⟨u,hu⟩:∃ u,us[i]? = some u:=⟨_,xF (by rw [h.1];exact hi)⟩;obtain ⟨q0,q1,q2,q3⟩:=Qef us i u hu;have hc:∀ (j:Nat) (x:Value),(Qag us)[j]? = some x→w.cell? ⟨g,j,none⟩=some x:=fun j x hx=>Qab hg j x (by simpa using hx)
 rw [Nat.zero_add];exact ⟨u,hc _ _ q0,hc _ _ q1,hc _ _ q2,hc _ _ q3,h.2 i t u ht hu⟩
def Qcb (B n:Nat) (w:World) (e:Ending) (w':World):Prop:=∃ (t:Tr) (u:TV),e = .returned (.agg #[.int .i64 u.kind,.string u.text,.slice u.la u.ll u.lc,.slice u.ka u.kl u.kc])∧TrAt (fun b=>w.heap.size≤b∧b<w'.heap.size) w' t u∧Qak t≤n∧Qe6 t=true∧Rest1 B w w'∧DiceAt B w'
theorem Qe0 {B R:Nat} {w wr:World} (v:TV) (hR:w.heap.size≤R) (hr:Rest1 B w wr):Rest1 B w (Qeg wr R v) :=
 ⟨hr.os,hr.tape,hr.output,by rw [Qb3];exact hr.size,fun k hk hne=>(Qa1 v (by omega)).trans (hr.block k hk hne)⟩
theorem Qe1 {B R:Nat} {wr:World} (v:TV) (hd:DiceAt B wr) (hR:B<R):DiceAt B (Qeg wr R v):=hd.other fun k hk=>Qa1 v (by omega)
theorem Qa3 {B n:Nat} {w wr:World} (k:Int) (x:ByteArray) (hx:szq x≤7) (hn:1≤n) (hB:B<w.heap.size) (hr:Rest1 B w wr) (hd:DiceAt B wr) :
  Qcb B n w (.returned (.agg #[.int .i64 k,.string x,.slice none 0 0,.slice none 0 0])) (Qeg wr w.heap.size ⟨k,x,none,0,0,none,0,0⟩) :=
 ⟨.mk k x [] [],⟨k,x,none,0,0,none,0,0⟩,rfl,Zbd _ _ k x,by rw [Qak,Qaq];omega,Qbz.2 ⟨hx,by simp,by simp,by rw [Qbm]⟩,Qe0 _ (xA _) hr,Qe1 _ hd hB⟩
def Qxe (B n:Nat) (k:Int) (w:World) (e:Ending) (w':World):Prop:=∃ (t:Tr) (u:TV),e = .returned (.agg #[.int .i64 u.kind,.string u.text,.slice u.la u.ll u.lc,.slice u.ka u.kl u.kc])∧TrAt (fun b=>w.heap.size≤b∧b<w'.heap.size) w' t u∧Qak t≤n∧Qe6 t=true∧Rest1 B w w'∧DiceAt B w'∧(t.kind=k∨t.kind=0)
theorem KidsFr.set {R lo:Nat} {w:World} {ks:List Tr} {us:List TV} (h:KidsFr lo w ks us) (v:TV) (hR:R<lo):KidsFr lo (Qeg w R v) ks us:=⟨h.1,fun i k u hk hu=>Zbc (h.2 i k u hk hu) hR⟩
theorem Qf0 {B n:Nat} {w w2:World} {ks:List Tr} {us:List TV} (k:Int) (x:ByteArray) (hx:szq x≤7) (hK:KidsFr (w.heap.size+1) w2 ks us) (hT:Qbm ks=true) (hS:1+Qaq ks≤n) (hB:B<w.heap.size) (hr:Rest1 B w w2) (hd:DiceAt B w2) (h1:w.heap.size+1≤w2.heap.size) (m:Nat) (hm:m=us.length) :
  Qcb B n w (.returned (.agg #[.int .i64 k,.string x,.slice none 0 0,.slice (some ⟨w2.heap.size,0,none⟩) m m])) ((Qeg w2 w.heap.size ⟨k,x,none,0,0,some ⟨w2.heap.size,0,none⟩,m,m⟩).alloc (.cells (Qag us).toArray 25)):=by
 have hsz:=Qb3 w2 w.heap.size ⟨k,x,none,0,0,some ⟨w2.heap.size,0,none⟩,m,m⟩;have hr3:=Qe0 (R:=w.heap.size) ⟨k,x,none,0,0,some ⟨w2.heap.size,0,none⟩,m,m⟩ (xA _) hr;have hd3:=Qe1 (R:=w.heap.size) ⟨k,x,none,0,0,some ⟨w2.heap.size,0,none⟩,m,m⟩ hd hB;have hK3:=hK.set ⟨k,x,none,0,0,some ⟨w2.heap.size,0,none⟩,m,m⟩ (R:=w.heap.size) (by omega)
 generalize Qeg w2 w.heap.size ⟨k,x,none,0,0,some ⟨w2.heap.size,0,none⟩,m,m⟩=w3 at *
 have hb:Below w3.heap.size w3 (w3.alloc (.cells (Qag us).toArray 25)):=(xC _ _).alloc (xA _) _;have hK2:=hK3.move (Rest1.below (g:=B) hb) (by omega);have hN:=Qpo (g:=w2.heap.size) k x hK2 (by rw [←hsz];exact xH w3 _) (by omega) m hm;exact ⟨.mk k x [] ks,⟨k,x,none,0,0,some ⟨w2.heap.size,0,none⟩,m,m⟩,rfl,Qje hN (by omega),by rw [Qak];omega,Qbz.2 ⟨hx,by simp,by simp,hT⟩,hr3.trans (Rest1.below hb),hd3.keep hb⟩
theorem KidsFr.keepB {lo:Nat} {w w':World} {ks:List Tr} {us:List TV} (h:KidsFr lo w ks us) (hb:Below w.heap.size w w'):KidsFr lo w' ks us :=
 ⟨h.1,fun i k u hk hu=>TrAt.move (fun _ hb'=>⟨hb'.1,xE hb'.2 hb.size⟩) (fun b _ hl=>hb.block b hl) _ _ (h.2 i k u hk hu)⟩
theorem Zg4 {lo:Nat} {w w':World} {t:Tr} {u:TV} (h:TrAt (fun b=>lo≤b∧b<w.heap.size) w t u) (hb:Below w.heap.size w w'):TrAt (fun b=>lo≤b∧b<w'.heap.size) w' t u :=
 TrAt.move (fun _ hb'=>⟨hb'.1,xE hb'.2 hb.size⟩) (fun b _ hl=>hb.block b hl) _ _ h
theorem Zbe {B n:Nat} {w w2:World} {t:Tr} {u:TV} (o:Obj) (h:TrAt (fun b=>w.heap.size+1≤b∧b<w2.heap.size) w2 t u) (hs:Qak t≤n) (ht:Qe6 t=true) (hB:B<w.heap.size) (hr:Rest1 B w w2) (hd:DiceAt B w2) :
  Qcb B n w (.returned (.agg #[.int .i64 u.kind,.string u.text,.slice u.la u.ll u.lc,.slice u.ka u.kl u.kc])) ((Qeg w2 w.heap.size u).alloc o):=by
 have hr3:=Qe0 (R:=w.heap.size) u (xA _) hr;have hd3:=Qe1 (R:=w.heap.size) u hd hB;have h3:=Zbc (R:=w.heap.size) (v:=u) h (by omega)
 generalize Qeg w2 w.heap.size u=w3 at *
 have hb:Below w3.heap.size w3 (w3.alloc o):=(xC _ _).alloc (xA _) _;exact ⟨t,u,rfl,Qje (Zg4 h3 hb) (by omega),hs,ht,hr3.trans (Rest1.below hb),hd3.keep hb⟩
theorem Qxf {B n:Nat} {w w2:World} {ks:List Tr} {us:List TV} (o:Obj) (k:Int) (x:ByteArray) (hx:szq x≤7) (hK:KidsFr (w.heap.size+1) w2 ks us) (hT:Qbm ks=true) (hS:1+Qaq ks≤n) (hB:B<w.heap.size) (hr:Rest1 B w w2) (hd:DiceAt B w2) (h1:w.heap.size+1≤w2.heap.size) (m:Nat) (hm:m=us.length) :
  Qcb B n w (.returned (.agg #[.int .i64 k,.string x,.slice none 0 0,.slice (some ⟨w2.heap.size+1,0,none⟩) m m])) (((Qeg w2 w.heap.size ⟨k,x,none,0,0,some ⟨w2.heap.size+1,0,none⟩,m,m⟩).alloc o).alloc (.cells (Qag us).toArray 25)):=by
 have hsz:=Qb3 w2 w.heap.size ⟨k,x,none,0,0,some ⟨w2.heap.size+1,0,none⟩,m,m⟩;have hr3:=Qe0 (R:=w.heap.size) ⟨k,x,none,0,0,some ⟨w2.heap.size+1,0,none⟩,m,m⟩ (xA _) hr;have hd3:=Qe1 (R:=w.heap.size) ⟨k,x,none,0,0,some ⟨w2.heap.size+1,0,none⟩,m,m⟩ hd hB;have hK3:=hK.set ⟨k,x,none,0,0,some ⟨w2.heap.size+1,0,none⟩,m,m⟩ (R:=w.heap.size) (by omega)
 generalize Qeg w2 w.heap.size ⟨k,x,none,0,0,some ⟨w2.heap.size+1,0,none⟩,m,m⟩=w3 at *
 have hb0:Below w3.heap.size w3 (w3.alloc o):=(xC _ _).alloc (xA _) _;have hz4:(w3.alloc o).heap.size=w2.heap.size+1:=by rw [xI,hsz]
 have hK4:=hK3.keepB hb0;have hr4:=hr3.trans (Rest1.below hb0);have hd4:=hd3.keep hb0
 generalize w3.alloc o=w4 at *
 have hb:Below w4.heap.size w4 (w4.alloc (.cells (Qag us).toArray 25)):=(xC _ _).alloc (xA _) _;have hN:=Qpo (g:=w2.heap.size+1) k x (hK4.keepB hb) (by rw [←hz4];exact xH w4 _) (by omega) m hm;exact ⟨.mk k x [] ks,⟨k,x,none,0,0,some ⟨w2.heap.size+1,0,none⟩,m,m⟩,rfl,Qje hN (by omega),by rw [Qak];omega,Qbz.2 ⟨hx,by simp,by simp,hT⟩,hr4.trans (Rest1.below hb),hd4.keep hb⟩
theorem Qai {w:World} {b:Nat} {a:Int} {s:ByteArray} {p q:Value} (h:w.heap[b]? = some (.cells #[.int .i64 a,.string s,p,q] 25 (0,0))) :
  w.cell? ⟨b,0,none⟩=some (.int .i64 a)∧w.cell? ⟨b,1,none⟩=some (.string s)∧w.cell? ⟨b,2,none⟩=some p∧w.cell? ⟨b,3,none⟩=some q∧b<w.heap.size∧∀ o,w.frozen? ⟨b,o,none⟩=false :=
 ⟨Qab h 0 _ rfl,Qab h 1 _ rfl,Qab h 2 _ rfl,Qab h 3 _ rfl,Qaa h,fun _=>xL h _⟩
def Zg5 (B:Nat) (w:World) (e:Ending) (w':World):Prop:=∃ s:ByteArray,e = .returned (.string s)∧szq s≤7∧Rest1 B w w'∧DiceAt B w'
theorem Quy (B b n:Nat) (ls:List ByteArray) (w:World) (hd:DiceAt B w) (hn:ls.length=n) (h1:1≤n) (h2:n≤100) (hs:∀ s∈ls,szq s≤7) (hb:B<b) (hc:∀ (i:Nat) (s:ByteArray),ls[i]? = some s→w.cell? ⟨b,i,none⟩=some (.string s)) :
  Calls Tryz.prog 99 #[.pointer (some ⟨B,0,none⟩),.slice (some ⟨b,0,none⟩) n n] w (Zg5 B w):=by
 have HC:=hQ hc;have HS:=hQ hs;have HN:=hQ hn;clear hc hs hn
 go_enter Tryz.func99,Tryz.ntmps99
 go_wp2_with fail
 go_at_call 42;refine (Qb9 B n _ hd (by omega) (by omega)).mono ?_;rintro e w1 ⟨r,rfl,hr0,hr1,hrest,hd1⟩;obtain ⟨k,rfl⟩:∃ k:Nat,r=(k:Int):=⟨r.toNat,by omega⟩;obtain ⟨s,hk⟩:∃ s,ls[k]? = some s:=⟨_,xF (by have:=HN.out;omega)⟩;have c:=HC.out k s hk;have c1:=(xJ (w:=w) (a:=⟨b,k,none⟩) (hrest.block b (xK w _ c) (by omega))).trans c;have hbl:=xK w1 _ c1;have HR:=hQ hrest;have HD1:=hQ hd1;have HSZ:=hQ (HS.out s (yA hk));clear hrest hd1 hk c
 go_wp2
 go_ret
 exact ⟨s,rfl,HSZ.out,HR.out,HD1.out⟩
theorem DiceAt.drew {B:Nat} {w:World} (h:DiceAt B w):DiceAt B w.drew:=h.other fun _ _=>rfl
theorem Rest1.ofDrew {B:Nat} {w w':World} (h:Rest1 B w.drew w'):Rest1 B w w':=⟨h.os,h.tape,h.output,h.size,h.block⟩
theorem Qch (B n:Nat) (ls:List ByteArray) (cs:Array Value) (w:World) (hd:DiceAt B w) (hcs:cs.toList=ls.map Value.string) (hn:ls.length=n) (h1:1≤n) (h2:n≤100) (hs:∀ s∈ls,szq s≤7) :
  Calls Tryz.prog 99 #[.pointer (some ⟨B,0,none⟩),.slice (some ⟨w.heap.size,0,none⟩) n n] (w.alloc (.cells cs 9)) (Zg5 B w):=by
 have hb:Below w.heap.size w (w.alloc (.cells cs 9)):=(xC _ _).alloc (xA _) _
 refine (Quy B w.heap.size n ls _ (hd.keep hb) hn h1 h2 hs hd.lt fun i s hi=>Qab (xH w (.cells cs 9)) i _ ?_).mono ?_
 ·rw [←Array.getElem?_toList,hcs,List.getElem?_map,hi];rfl
 ·rintro e w' ⟨s,q1,q2,q3,q4⟩;exact ⟨s,q1,q2,(Rest1.below hb).trans q3,q4⟩
theorem Qrf (B n:Nat) (ls:List ByteArray) (cs:Array Value) (w:World) (hd:DiceAt B w) (hcs:cs.toList=ls.map Value.string) (hn:ls.length=n) (h1:1≤n) (h2:n≤100) (hs:∀ s∈ls,szq s≤7) :
  Calls Tryz.prog 99 #[.pointer (some ⟨B,0,none⟩),.slice (some ⟨w.heap.size,0,none⟩) n n] (w.alloc (.cells cs 9)).drew (Zg5 B w):=by
 refine (Quy B w.heap.size n ls _ (hd.keep ((xC _ _).alloc (xA _) (.cells cs 9))).drew hn h1 h2 hs hd.lt fun i s hi=>Qab (w:=(w.alloc (.cells cs 9)).drew) (xH w (.cells cs 9)) i _ ?_).mono ?_
 ·rw [←Array.getElem?_toList,hcs,List.getElem?_map,hi];rfl
 ·rintro e w' ⟨s,q1,q2,q3,q4⟩;exact ⟨s,q1,q2,(Rest1.below ((xC _ _).alloc (xA _) (.cells cs 9))).trans q3.ofDrew,q4⟩
end Go.Proofs.YtfjpemdejoejbaaGreat
