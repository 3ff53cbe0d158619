/- Part 35 -/
import Derived.Test.YtjidpkcjpgdafaaGreatSe20
set_option maxRecDepth 100000
set_option maxHeartbeats 4000000
namespace Go.Proofs.YtjidpkcjpgdafaaGreat
open Go.RowKit Go.Shelf
def DiceAt (B:Nat) (w:World):Prop:=∃ (A:Option Addr) (c k:Nat) (xs:List Int),w.heap[B]? = some (.cells #[.slice A xs.length c,.int .i64 k] 102 (0,0))∧xs.length≤120∧k≤xs.length∧xs.length≤c ∧
 (xs≠[]→∃ b off,A=some ⟨b,off,none⟩∧b<B∧∀ (i:Nat) (x:Int),xs[i]? = some x→w.cell? ⟨b,off+i,none⟩=some (.int .i64 x))
theorem DiceAt.lt {B:Nat} {w:World} (h:DiceAt B w):B<w.heap.size:=by
 obtain ⟨_,_,_,_,hh,_⟩:=h;exact Qaa hh
theorem DiceAt.other {B:Nat} {w w':World} (h:DiceAt B w) (hb:∀ k,k≤B→w'.heap[k]? = w.heap[k]?):DiceAt B w':=by
 obtain ⟨A,c,k,xs,h1,h2,h3,h4,h5⟩:=h;refine ⟨A,c,k,xs,(hb B (xA _)).trans h1,h2,h3,h4,fun hne=>?_⟩;obtain ⟨b,off,q1,q2,q3⟩:=h5 hne;exact ⟨b,off,q1,q2,fun i x hx=>(xJ (w:=w) (a:=⟨b,off+i,none⟩) (hb b (Nat.le_of_lt q2))).trans (q3 i x hx)⟩
theorem DiceAt.keep {B:Nat} {w w':World} (h:DiceAt B w) (hb:Below w.heap.size w w'):DiceAt B w':=h.other fun k hk=>hb.block k (Nat.lt_of_le_of_lt hk h.lt)
theorem DiceAt.next {B k:Nat} {w:World} {A:Option Addr} {c:Nat} {xs:List Int} (h1:w.heap[B]? = some (.cells #[.slice A xs.length c,.int .i64 k] 102 (0,0))) (h2:xs.length≤120) (h3:k<xs.length) (h4:xs.length≤c)
  (h5:xs≠[]→∃ b off,A=some ⟨b,off,none⟩∧b<B∧∀ (i:Nat) (x:Int),xs[i]? = some x→w.cell? ⟨b,off+i,none⟩=some (.int .i64 x)):DiceAt B (w.setCell ⟨B,1,none⟩ (.int .i64 ((k:Int)+1))):=by
 refine ⟨A,c,k+1,xs,Qa2 h1 rfl,h2,by omega,h4,fun hne=>?_⟩;obtain ⟨b,off,q1,q2,q3⟩:=h5 hne;exact ⟨b,off,q1,q2,fun i x hx=>(xJ (w:=w) (a:=⟨b,off+i,none⟩) (Qav (k:=b) (by omega))).trans (q3 i x hx)⟩
def Zhd (B:Nat) (m:Int) (w:World) (e:Ending) (w':World):Prop:=∃ r:Int,e = .returned (.int .i64 r)∧0≤r∧r<m∧Rest1 B w w'∧DiceAt B w'
theorem Rest1.drewN {g:Nat} {w w':World} (h:Rest1 g w w') (n:Nat):Rest1 g w (w'.drewN n):=h.trans ⟨rfl,rfl,rfl,xA _,fun _ _ _=>rfl⟩
theorem DiceAt.drewN {B:Nat} {w:World} (h:DiceAt B w) (n:Nat):DiceAt B (w.drewN n):=h.other fun _ _=>rfl
def Qfd (B:Nat) (w:World) (m r:Int):Prop:=∀ w',(∀ k,k≤B→w'.heap[k]? = w.heap[k]?)→Calls Tryz.prog 61 #[.pointer (some ⟨B,0,none⟩),.int .i64 m] w' fun e w''=>e = .returned (.int .i64 r)∧Rest1 B w' w''∧DiceAt B w''
theorem Quh (B:Nat) (m:Int) (W:World) (hD:DiceAt B W) (h1:1≤m) (h2:m≤1000):∃ r:Int,0≤r∧r<m∧Qfd B W m r:=by
 obtain ⟨A,c,k,xs,Q1,q2,q3,q4,Q5⟩:=hD
 by_cases hk:k<xs.length
 ·obtain ⟨b,off,hA,hne,hcs⟩:=Q5 (by intro e;rw [e] at hk;simp at hk);obtain ⟨x,hx⟩:∃ x,xs[k]? = some x:=⟨_,xF hk⟩;refine ⟨Zgk x m,(Qzf x (m:=m) (by omega)).1,(Qzf x (m:=m) (by omega)).2,fun w hb=>?_⟩;have q1:=(hb B (xA _)).trans Q1;have q5:xs≠[]→∃ b off,A=some ⟨b,off,none⟩∧b<B∧∀ (i:Nat) (x:Int),xs[i]? = some x→w.cell? ⟨b,off+i,none⟩=some (.int .i64 x):=fun _=>⟨b,off,hA,hne,fun i x hi=>(xJ (w:=W) (a:=⟨b,off+i,none⟩) (hb b (Nat.le_of_lt hne))).trans (hcs i x hi)⟩
  have hcx:=(xJ (w:=W) (a:=⟨b,off+k,none⟩) (hb b (Nat.le_of_lt hne))).trans (hcs k x hx);have HD:=hQ (show DiceAt B w from ⟨A,c,k,xs,q1,q2,q3,q4,q5⟩);subst hA;have c0:=Qab q1 0 _ rfl;have c1:=Qab q1 1 _ rfl;have hbl:=Qaa q1;have hfr:=xL q1;have d1:decide (xs.length≤k)=false:=xR (by omega);have hcb:=xK w _ hcx;have HN:=hQ (fun n=>DiceAt.next (w:=w.drewN n) q1 q2 hk q4 q5);have HNE:=hQ hne;have HQ:=hQ q1;have HCX:=hQ hcx;clear q1 q5 hcs hx Q1 Q5 hb
  go_enter Tryz.func61,Tryz.ntmps61
  go_wp2
  go_quiet (fail)
  go_wp2
  have hb1:((w.drewN nq).setCell ⟨B,1,none⟩ (.int .i64 ((k:Int)+1))).heap[B]? = some (.cells #[.slice (some ⟨b,off,none⟩) xs.length c,.int .i64 ((k:Int)+1)] 102 (0,0)):=Qa2 (w:=w.drewN nq) HQ.out rfl;have hcz:((w.drewN nq).setCell ⟨B,1,none⟩ (.int .i64 ((k:Int)+1))).cell? ⟨b,off+k,none⟩=some (.int .i64 x):=(xJ (w:=w) (a:=⟨b,off+k,none⟩) (Qav (w:=w.drewN nq) (k:=b) (by have:=HNE.out;omega))).trans HCX.out;have HRW:=hQ (show Rest1 B w ((w.drewN nq).setCell ⟨B,1,none⟩ (.int .i64 ((k:Int)+1))) from ((Rest1.below (xC _ _)).drewN nq).trans (Rest1.set _ B 1 _));have HDW:=hQ (HN.out nq)
  generalize ((w.drewN nq).setCell ⟨B,1,none⟩ (.int .i64 ((k:Int)+1)))=W2 at *
  clear c0 c1 hbl hfr hcx hcb;have c0:=Qab hb1 0 _ rfl;have c1:=Qab hb1 1 _ rfl;have hbl:=Qaa hb1;have hcb:=xK W2 _ hcz;have k1:(k:Int)+1-1=(k:Int):=by omega
  have k2:(0:Int)≤(k:Int):=by omega
  have k3:(k:Int)<(xs.length:Int):=by omega
  clear hb1
  go_quiet ((go_at_call 27;exact Calls.quiet_of_same ((Zfn _ _ _ (by omega) (by omega)).mono fun _ _ h=>⟨h.1,h.2.symm⟩)))
  go_wp2
  go_ret
  exact ⟨rfl,HRW.out.drewN _,HDW.out.drewN _⟩
 ·obtain rfl:k=xs.length:=by omega
  refine ⟨0,by omega,by omega,fun w hb=>?_⟩;have q1:=(hb B (xA _)).trans Q1;have HD:=hQ (DiceAt.other (w:=W) ⟨A,c,xs.length,xs,Q1,q2,q3,q4,Q5⟩ hb);have d1:decide (xs.length≤xs.length)=true:=xS (xA _);have c0:=Qab q1 0 _ rfl;have c1:=Qab q1 1 _ rfl;have hbl:=Qaa q1;have hfr:=xL q1;clear q1 Q1 Q5 hb
  go_enter Tryz.func61,Tryz.ntmps61
  go_wp2
  go_quiet (fail)
  go_wp2
  go_ret
  exact ⟨rfl,(Rest1.below (xC _ _)).drewN _,HD.out.drewN _⟩
theorem Qb6 (B:Nat) (m:Int) (w:World) (hd:DiceAt B w) (h1:1≤m) (h2:m≤1000):Calls Tryz.prog 61 #[.pointer (some ⟨B,0,none⟩),.int .i64 m] w (Zhd B m w):=by
 obtain ⟨r,h3,h4,h5⟩:=Quh B m w hd h1 h2;refine (h5 w fun _ _=>rfl).mono ?_;rintro e w' ⟨q1,q2,q3⟩;exact ⟨r,q1,h3,h4,q2,q3⟩
mutual
def Qf0:Tr→Bool
 | .mk _ x ls ks=>decide (x.size≤7) && decide (ls.length≤ks.length+6) && ls.all (fun y=>decide (y.size≤5)) && Qbj ks
def Qbj:List Tr→Bool
 | []=>true
 | t :: r=>Qf0 t && Qbj r
end
theorem Qg2:(a b:List Tr)→Qbj (a ++ b)=(Qbj a && Qbj b)
 | [],b=>by rw [xU,Qbj,Bool.true_and]
 | t :: r,b=>by rw [xV,Qbj,Qg2 r b,Qbj,Bool.and_assoc]
theorem Qnk:(l:List Tr)→(j:Nat)→(k:Tr)→Qbj l=true→l[j]? = some k→Qf0 k=true
 | [],j,k,_,hk=>by simp at hk
 | t :: r,j,k,h,hk=>by
  rw [Qbj,Bool.and_eq_true] at h;cases j with
  | zero=>simp at hk;subst hk;exact h.1
  | succ j=>exact Qnk r j k h.2 (by simpa using hk)
theorem Qcc {k:Int} {x:ByteArray} {ls:List ByteArray} {ks:List Tr}:Qf0 (.mk k x ls ks)=true ↔ x.size≤7∧ls.length≤ks.length+6∧(∀ y∈ls,y.size≤5)∧Qbj ks=true:=by
 rw [Qf0,Bool.and_eq_true,Bool.and_eq_true,Bool.and_eq_true,decide_eq_true_iff,decide_eq_true_iff,List.all_eq_true];simp only [decide_eq_true_iff];exact ⟨fun h=>⟨h.1.1.1,h.1.1.2,h.1.2,h.2⟩,fun h=>⟨⟨⟨h.1,h.2.1⟩,h.2.2.1⟩,h.2.2.2⟩⟩
theorem Zaq:(l:List ByteArray)→(∀ y∈l,y.size≤5)→szB l≤5*l.length
 | [],_=>by rw [szB];omega
 | y :: r,h=>by
  have h1:=Zaq r (fun z hz=>h z (by simp [hz]));have h2:=h y (by simp);rw [szB,xD];omega
mutual
theorem Ql8:(t:Tr)→Qf0 t=true→Qrt t+7≤60*Qal t
 | .mk k x ls ks,h=>by
  obtain ⟨h1,h2,h3,h4⟩:=Qcc.1 h;have h5:=Qrk ks h4;have h6:=Zaq ls h3;rw [Qrt,Qal];omega
theorem Qrk:(l:List Tr)→Qbj l=true→7*l.length+Qvy l≤60*Qao l
 | [],_=>by rw [Qvy,Qao];simp
 | t :: r,h=>by
  rw [Qbj,Bool.and_eq_true] at h;have h1:=Ql8 t h.1;have h2:=Qrk r h.2;rw [Qvy,Qao,xD];omega
end
def KidsFr (lo:Nat) (w:World) (ks:List Tr) (us:List TV):Prop:=us.length=ks.length∧∀ (i:Nat) (k:Tr) (u:TV),ks[i]? = some k→us[i]? = some u→TrAt (fun b=>lo≤b∧b<w.heap.size) w k u
theorem KidsFr.nil (lo:Nat) (w:World):KidsFr lo w [] []:=⟨rfl,fun i k u h=>by simp at h⟩
theorem KidsFr.snoc {lo:Nat} {w:World} {ks:List Tr} {us:List TV} (h:KidsFr lo w ks us) {k:Tr} {u:TV} (hu:TrAt (fun b=>lo≤b∧b<w.heap.size) w k u):KidsFr lo w (ks ++ [k]) (us ++ [u]):=by
 refine ⟨by simp [h.1],fun i k' u' hk hu'=>?_⟩
 by_cases hi:i<ks.length
 ·rw [yB hi] at hk;rw [yB (by rw [h.1];exact hi)] at hu';exact h.2 i k' u' hk hu'
 ·have hl:=(xP.1 hk).1;rw [xB,List.length_singleton] at hl;obtain rfl:i=ks.length:=by omega
  rw [xX (xA _),Nat.sub_self] at hk;rw [←h.1,xX (xA _),Nat.sub_self] at hu';injection hk with hk;injection hu' with hu';subst hk hu';exact hu
theorem KidsFr.move {B lo:Nat} {w w':World} {ks:List Tr} {us:List TV} (h:KidsFr lo w ks us) (hr:Rest1 B w w') (hB:B<lo):KidsFr lo w' ks us :=
 ⟨h.1,fun i k u hk hu=>TrAt.move (fun b hb=>⟨hb.1,xE hb.2 hr.size⟩) (fun b hb hl=>hr.block b hl (by omega)) _ _ (h.2 i k u hk hu)⟩
theorem Zf5 {B a lo:Nat} {w w':World} {t:Tr} {u:TV} (h:TrAt (fun b=>a≤b∧b<w.heap.size) w t u) (hr:Rest1 B w w') (hB:B<a) (hl:lo≤a):TrAt (fun b=>lo≤b∧b<w'.heap.size) w' t u :=
 TrAt.move (fun b hb=>⟨by omega,xE hb.2 hr.size⟩) (fun b hb hlt=>hr.block b hlt (by omega)) _ _ h
theorem Zar {R lo:Nat} {w:World} {t:Tr} {u v:TV} (h:TrAt (fun b=>lo≤b∧b<w.heap.size) w t u) (hR:R<lo):TrAt (fun b=>lo≤b∧b<(Qf7 w R v).heap.size) (Qf7 w R v) t u :=
 TrAt.move (fun b hb=>⟨hb.1,by rw [Qdn];exact hb.2⟩) (fun b hb _=>Qbw _ (by omega)) _ _ h
theorem Qi4 {a lo:Nat} {w:World} {t:Tr} {u:TV} (h:TrAt (fun b=>a≤b∧b<w.heap.size) w t u) (hl:lo≤a):TrAt (fun b=>lo≤b∧b<w.heap.size) w t u :=
 TrAt.move (fun b hb=>⟨by omega,hb.2⟩) (fun _ _ _=>rfl) _ _ h
theorem Zas (S:Nat→Prop) (w:World) (k:Int) (x:ByteArray):TrAt S w (.mk k x [] []) ⟨k,x,none,0,0,none,0,0⟩:=by
 unfold TrAt;exact ⟨rfl,rfl,rfl,rfl,fun h=>absurd rfl h,fun h=>absurd rfl h,xA _,xA _⟩
theorem Qp2 {lo g:Nat} {w:World} {ks:List Tr} {us:List TV} (k:Int) (x:ByteArray) (h:KidsFr lo w ks us) (hg:w.heap[g]? = some (.cells (Qag us).toArray 29 (0,0))) (hl:lo≤g) (n:Nat) (hn:n=us.length) :
  TrAt (fun b=>lo≤b∧b<w.heap.size) w (.mk k x [] ks) ⟨k,x,none,0,0,some ⟨g,0,none⟩,n,n⟩:=by
 subst hn;unfold TrAt;refine ⟨rfl,rfl,rfl,h.1,fun hne=>absurd rfl hne,fun _=>⟨g,0,rfl,⟨hl,Qaa hg⟩,TrsAt.of ks 0 fun i t ht=>?_⟩,xA _,xA _⟩;have hi:=(xP.1 ht).1;obtain ⟨u,hu⟩:∃ u,us[i]? = some u:=⟨_,xF (by rw [h.1];exact hi)⟩;obtain ⟨q0,q1,q2,q3⟩:=Qfh us i u hu;have hc:∀ (j:Nat) (x:Value),(Qag us)[j]? = some x→w.cell? ⟨g,j,none⟩=some x:=fun j x hx=>Qab hg j x (by simpa using hx)
 rw [Nat.zero_add];exact ⟨u,hc _ _ q0,hc _ _ q1,hc _ _ q2,hc _ _ q3,h.2 i t u ht hu⟩
def Qb7 (B n:Nat) (w:World) (e:Ending) (w':World):Prop:=∃ (t:Tr) (u:TV),e = .returned (.agg #[.int .i64 u.kind,.string u.text,.slice u.la u.ll u.lc,.slice u.ka u.kl u.kc])∧TrAt (fun b=>w.heap.size≤b∧b<w'.heap.size) w' t u∧Qal t≤n∧Qf0 t=true∧Rest1 B w w'∧DiceAt B w'
theorem Qez {B R:Nat} {w wr:World} (v:TV) (hR:w.heap.size≤R) (hr:Rest1 B w wr):Rest1 B w (Qf7 wr R v) :=
 ⟨hr.os,hr.tape,hr.output,by rw [Qdn];exact hr.size,fun k hk hne=>(Qbw v (by omega)).trans (hr.block k hk hne)⟩
theorem Qe0 {B R:Nat} {wr:World} (v:TV) (hd:DiceAt B wr) (hR:B<R):DiceAt B (Qf7 wr R v):=hd.other fun k hk=>Qbw v (by omega)
theorem Qa1 {B n:Nat} {w wr:World} (k:Int) (x:ByteArray) (hx:x.size≤7) (hn:1≤n) (hB:B<w.heap.size) (hr:Rest1 B w wr) (hd:DiceAt B wr) :
  Qb7 B n w (.returned (.agg #[.int .i64 k,.string x,.slice none 0 0,.slice none 0 0])) (Qf7 wr w.heap.size ⟨k,x,none,0,0,none,0,0⟩) :=
 ⟨.mk k x [] [],⟨k,x,none,0,0,none,0,0⟩,rfl,Zas _ _ k x,by rw [Qal,Qao];omega,Qcc.2 ⟨hx,by simp,by simp,by rw [Qbj]⟩,Qez _ (xA _) hr,Qe0 _ hd hB⟩
def Qwr (B n:Nat) (k:Int) (w:World) (e:Ending) (w':World):Prop:=∃ (t:Tr) (u:TV),e = .returned (.agg #[.int .i64 u.kind,.string u.text,.slice u.la u.ll u.lc,.slice u.ka u.kl u.kc])∧TrAt (fun b=>w.heap.size≤b∧b<w'.heap.size) w' t u∧Qal t≤n∧Qf0 t=true∧Rest1 B w w'∧DiceAt B w'∧(t.kind=k∨t.kind=0)
theorem KidsFr.set {R lo:Nat} {w:World} {ks:List Tr} {us:List TV} (h:KidsFr lo w ks us) (v:TV) (hR:R<lo):KidsFr lo (Qf7 w R v) ks us:=⟨h.1,fun i k u hk hu=>Zar (h.2 i k u hk hu) hR⟩
theorem Qf1 {B n:Nat} {w w2:World} {ks:List Tr} {us:List TV} (k:Int) (x:ByteArray) (hx:x.size≤7) (hK:KidsFr (w.heap.size+1) w2 ks us) (hT:Qbj ks=true) (hS:1+Qao ks≤n) (hB:B<w.heap.size) (hr:Rest1 B w w2) (hd:DiceAt B w2) (h1:w.heap.size+1≤w2.heap.size) (m:Nat) (hm:m=us.length) :
  Qb7 B n w (.returned (.agg #[.int .i64 k,.string x,.slice none 0 0,.slice (some ⟨w2.heap.size,0,none⟩) m m])) ((Qf7 w2 w.heap.size ⟨k,x,none,0,0,some ⟨w2.heap.size,0,none⟩,m,m⟩).alloc (.cells (Qag us).toArray 29)):=by
 have hsz:=Qdn w2 w.heap.size ⟨k,x,none,0,0,some ⟨w2.heap.size,0,none⟩,m,m⟩;have hr3:=Qez (R:=w.heap.size) ⟨k,x,none,0,0,some ⟨w2.heap.size,0,none⟩,m,m⟩ (xA _) hr;have hd3:=Qe0 (R:=w.heap.size) ⟨k,x,none,0,0,some ⟨w2.heap.size,0,none⟩,m,m⟩ hd hB;have hK3:=hK.set ⟨k,x,none,0,0,some ⟨w2.heap.size,0,none⟩,m,m⟩ (R:=w.heap.size) (by omega)
 generalize Qf7 w2 w.heap.size ⟨k,x,none,0,0,some ⟨w2.heap.size,0,none⟩,m,m⟩=w3 at *
 have hb:Below w3.heap.size w3 (w3.alloc (.cells (Qag us).toArray 29)):=(xC _ _).alloc (xA _) _;have hK2:=hK3.move (Rest1.below (g:=B) hb) (by omega);have hN:=Qp2 (g:=w2.heap.size) k x hK2 (by rw [←hsz];exact xH w3 _) (by omega) m hm;exact ⟨.mk k x [] ks,⟨k,x,none,0,0,some ⟨w2.heap.size,0,none⟩,m,m⟩,rfl,Qi4 hN (by omega),by rw [Qal];omega,Qcc.2 ⟨hx,by simp,by simp,hT⟩,hr3.trans (Rest1.below hb),hd3.keep hb⟩
theorem KidsFr.keepB {lo:Nat} {w w':World} {ks:List Tr} {us:List TV} (h:KidsFr lo w ks us) (hb:Below w.heap.size w w'):KidsFr lo w' ks us :=
 ⟨h.1,fun i k u hk hu=>TrAt.move (fun _ hb'=>⟨hb'.1,xE hb'.2 hb.size⟩) (fun b _ hl=>hb.block b hl) _ _ (h.2 i k u hk hu)⟩
theorem Zf6 {lo:Nat} {w w':World} {t:Tr} {u:TV} (h:TrAt (fun b=>lo≤b∧b<w.heap.size) w t u) (hb:Below w.heap.size w w'):TrAt (fun b=>lo≤b∧b<w'.heap.size) w' t u :=
 TrAt.move (fun _ hb'=>⟨hb'.1,xE hb'.2 hb.size⟩) (fun b _ hl=>hb.block b hl) _ _ h
theorem Zat {B n:Nat} {w w2:World} {t:Tr} {u:TV} (o:Obj) (h:TrAt (fun b=>w.heap.size+1≤b∧b<w2.heap.size) w2 t u) (hs:Qal t≤n) (ht:Qf0 t=true) (hB:B<w.heap.size) (hr:Rest1 B w w2) (hd:DiceAt B w2) :
  Qb7 B n w (.returned (.agg #[.int .i64 u.kind,.string u.text,.slice u.la u.ll u.lc,.slice u.ka u.kl u.kc])) ((Qf7 w2 w.heap.size u).alloc o):=by
 have hr3:=Qez (R:=w.heap.size) u (xA _) hr;have hd3:=Qe0 (R:=w.heap.size) u hd hB;have h3:=Zar (R:=w.heap.size) (v:=u) h (by omega)
 generalize Qf7 w2 w.heap.size u=w3 at *
 have hb:Below w3.heap.size w3 (w3.alloc o):=(xC _ _).alloc (xA _) _;exact ⟨t,u,rfl,Qi4 (Zf6 h3 hb) (by omega),hs,ht,hr3.trans (Rest1.below hb),hd3.keep hb⟩
theorem Qws {B n:Nat} {w w2:World} {ks:List Tr} {us:List TV} (o:Obj) (k:Int) (x:ByteArray) (hx:x.size≤7) (hK:KidsFr (w.heap.size+1) w2 ks us) (hT:Qbj ks=true) (hS:1+Qao ks≤n) (hB:B<w.heap.size) (hr:Rest1 B w w2) (hd:DiceAt B w2) (h1:w.heap.size+1≤w2.heap.size) (m:Nat) (hm:m=us.length) :
  Qb7 B n w (.returned (.agg #[.int .i64 k,.string x,.slice none 0 0,.slice (some ⟨w2.heap.size+1,0,none⟩) m m])) (((Qf7 w2 w.heap.size ⟨k,x,none,0,0,some ⟨w2.heap.size+1,0,none⟩,m,m⟩).alloc o).alloc (.cells (Qag us).toArray 29)):=by
 have hsz:=Qdn w2 w.heap.size ⟨k,x,none,0,0,some ⟨w2.heap.size+1,0,none⟩,m,m⟩;have hr3:=Qez (R:=w.heap.size) ⟨k,x,none,0,0,some ⟨w2.heap.size+1,0,none⟩,m,m⟩ (xA _) hr;have hd3:=Qe0 (R:=w.heap.size) ⟨k,x,none,0,0,some ⟨w2.heap.size+1,0,none⟩,m,m⟩ hd hB;have hK3:=hK.set ⟨k,x,none,0,0,some ⟨w2.heap.size+1,0,none⟩,m,m⟩ (R:=w.heap.size) (by omega)
 generalize Qf7 w2 w.heap.size ⟨k,x,none,0,0,some ⟨w2.heap.size+1,0,none⟩,m,m⟩=w3 at *
 have hb0:Below w3.heap.size w3 (w3.alloc o):=(xC _ _).alloc (xA _) _;have hz4:(w3.alloc o).heap.size=w2.heap.size+1:=by rw [xI,hsz]
 have hK4:=hK3.keepB hb0;have hr4:=hr3.trans (Rest1.below hb0);have hd4:=hd3.keep hb0
 generalize w3.alloc o=w4 at *
 have hb:Below w4.heap.size w4 (w4.alloc (.cells (Qag us).toArray 29)):=(xC _ _).alloc (xA _) _;have hN:=Qp2 (g:=w2.heap.size+1) k x (hK4.keepB hb) (by rw [←hz4];exact xH w4 _) (by omega) m hm;exact ⟨.mk k x [] ks,⟨k,x,none,0,0,some ⟨w2.heap.size+1,0,none⟩,m,m⟩,rfl,Qi4 hN (by omega),by rw [Qal];omega,Qcc.2 ⟨hx,by simp,by simp,hT⟩,hr4.trans (Rest1.below hb),hd4.keep hb⟩
theorem Qaj {w:World} {b:Nat} {a:Int} {s:ByteArray} {p q:Value} (h:w.heap[b]? = some (.cells #[.int .i64 a,.string s,p,q] 29 (0,0))) :
  w.cell? ⟨b,0,none⟩=some (.int .i64 a)∧w.cell? ⟨b,1,none⟩=some (.string s)∧w.cell? ⟨b,2,none⟩=some p∧w.cell? ⟨b,3,none⟩=some q∧b<w.heap.size∧∀ o,w.frozen? ⟨b,o,none⟩=false :=
 ⟨Qab h 0 _ rfl,Qab h 1 _ rfl,Qab h 2 _ rfl,Qab h 3 _ rfl,Qaa h,fun _=>xL h _⟩
def Zf7 (B:Nat) (w:World) (e:Ending) (w':World):Prop:=∃ s:ByteArray,e = .returned (.string s)∧s.size≤7∧Rest1 B w w'∧DiceAt B w'
theorem Qui (B b n:Nat) (ls:List ByteArray) (w:World) (hd:DiceAt B w) (hn:ls.length=n) (h1:1≤n) (h2:n≤100) (hs:∀ s∈ls,s.size≤7) (hb:B<b) (hc:∀ (i:Nat) (s:ByteArray),ls[i]? = some s→w.cell? ⟨b,i,none⟩=some (.string s)) :
  Calls Tryz.prog 151 #[.pointer (some ⟨B,0,none⟩),.slice (some ⟨b,0,none⟩) n n] w (Zf7 B w):=by
 have HC:=hQ hc;have HS:=hQ hs;have HN:=hQ hn;clear hc hs hn
 go_enter Tryz.func151,Tryz.ntmps151
 go_wp2_with fail
 go_at_call 61;refine (Qb6 B n _ hd (by omega) (by omega)).mono ?_;rintro e w1 ⟨r,rfl,hr0,hr1,hrest,hd1⟩;obtain ⟨k,rfl⟩:∃ k:Nat,r=(k:Int):=⟨r.toNat,by omega⟩;obtain ⟨s,hk⟩:∃ s,ls[k]? = some s:=⟨_,xF (by have:=HN.out;omega)⟩;have c:=HC.out k s hk;have c1:=(xJ (w:=w) (a:=⟨b,k,none⟩) (hrest.block b (xK w _ c) (by omega))).trans c;have hbl:=xK w1 _ c1;have HR:=hQ hrest;have HD1:=hQ hd1;have HSZ:=hQ (HS.out s (yA hk));clear hrest hd1 hk c
 go_wp2
 go_ret
 exact ⟨s,rfl,HSZ.out,HR.out,HD1.out⟩
theorem DiceAt.drew {B:Nat} {w:World} (h:DiceAt B w):DiceAt B w.drew:=h.other fun _ _=>rfl
theorem Rest1.ofDrew {B:Nat} {w w':World} (h:Rest1 B w.drew w'):Rest1 B w w':=⟨h.os,h.tape,h.output,h.size,h.block⟩
theorem Qcd (B n:Nat) (ls:List ByteArray) (cs:Array Value) (w:World) (hd:DiceAt B w) (hcs:cs.toList=ls.map Value.string) (hn:ls.length=n) (h1:1≤n) (h2:n≤100) (hs:∀ s∈ls,s.size≤7) :
  Calls Tryz.prog 151 #[.pointer (some ⟨B,0,none⟩),.slice (some ⟨w.heap.size,0,none⟩) n n] (w.alloc (.cells cs 9)) (Zf7 B w):=by
 have hb:Below w.heap.size w (w.alloc (.cells cs 9)):=(xC _ _).alloc (xA _) _
 refine (Qui B w.heap.size n ls _ (hd.keep hb) hn h1 h2 hs hd.lt fun i s hi=>Qab (xH w (.cells cs 9)) i _ ?_).mono ?_
 ·rw [←Array.getElem?_toList,hcs,List.getElem?_map,hi];rfl
 ·rintro e w' ⟨s,q1,q2,q3,q4⟩;exact ⟨s,q1,q2,(Rest1.below hb).trans q3,q4⟩
theorem Qrl (B n:Nat) (ls:List ByteArray) (cs:Array Value) (w:World) (hd:DiceAt B w) (hcs:cs.toList=ls.map Value.string) (hn:ls.length=n) (h1:1≤n) (h2:n≤100) (hs:∀ s∈ls,s.size≤7) :
  Calls Tryz.prog 151 #[.pointer (some ⟨B,0,none⟩),.slice (some ⟨w.heap.size,0,none⟩) n n] (w.alloc (.cells cs 9)).drew (Zf7 B w):=by
 refine (Qui B w.heap.size n ls _ (hd.keep ((xC _ _).alloc (xA _) (.cells cs 9))).drew hn h1 h2 hs hd.lt fun i s hi=>Qab (w:=(w.alloc (.cells cs 9)).drew) (xH w (.cells cs 9)) i _ ?_).mono ?_
 ·rw [←Array.getElem?_toList,hcs,List.getElem?_map,hi];rfl
 ·rintro e w' ⟨s,q1,q2,q3,q4⟩;exact ⟨s,q1,q2,(Rest1.below ((xC _ _).alloc (xA _) (.cells cs 9))).trans q3.ofDrew,q4⟩
end Go.Proofs.YtjidpkcjpgdafaaGreat
