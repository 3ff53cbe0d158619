/- Part 48 -/
import Derived.Test.YtfjpemdejoejbaaGreatSg47
import Derived.Test.YtfjpemdejoejbaaGreatSg46
import Derived.Test.YtfjpemdejoejbaaGreatSg39
set_option maxRecDepth 100000
set_option maxHeartbeats 4000000
namespace Go.Proofs.YtfjpemdejoejbaaGreat
open Go.RowKit
theorem Zbq {l:List ByteArray} {y:ByteArray} (h:y∈l):y.size≤szB l:=by
 induction l with
 | nil=>simp at h
 | cons a r ih =>
  rw [szB]
  rcases List.mem_cons.1 h with rfl | h
  ·omega
  ·have:=ih h;omega
mutual
theorem Qki:(t:Tr)→Qry t≤1048576→Qdb t=true
 | .mk _ x ls ks,h=>by
  rw [Qry] at h;rw [Qdb,Qoe ks (by omega),xS (by unfold maxLen;omega),Bool.true_and,Bool.and_true,List.all_eq_true];intro y hy;have:=Zbq hy
  exact xS (by unfold maxLen;omega)
theorem Qoe:(l:List Tr)→Qwi l≤1048576→Qh6 l=true
 | [],_=>by rw [Qh6]
 | t :: r,h=>by
  rw [Qwi] at h;rw [Qh6,Qki t (by omega),Qoe r (by omega)];rfl
end
def Qtn:List (List Qbl)→Nat
 | []=>0
 | p :: r=>p.length+1+Qtn r
theorem Qof:(l:List (List Qbl))→(m:Nat)→Qtn (l.take m)+Qtn (l.drop m)=Qtn l
 | [],m=>by simp [Qtn]
 | p :: r,0=>by simp [Qtn]
 | p :: r,m+1=>by
  have:=Qof r m
  rw [List.take_succ_cons,List.drop_succ_cons,Qtn,Qtn];omega
theorem Qlo (co:Bool) (cs:List ByteArray):(l:List (List Qbl))→(i:Nat)→(Qa9 co cs i l).length≤Qtn l
 | [],i=>by rw [Qa9,Qtn];exact xA _
 | p :: r,i=>by
  have:=Qlo co cs r (i+1)
  rw [Qa9,Qtn,xB,xB];have:(if 0<i∧co=true then [((cs[i-1]?).getD ⟨#[]⟩,(⟨#[44]⟩:ByteArray))] else []).length≤1:=by split <;> simp
  omega
theorem Qjr (n:Int) (tx:ByteArray) (cs:List ByteArray):(l:List Part)→(ls:List ByteArray)→(ks:List (List Qbl))→(Qbr n tx cs l ls ks).length≤Qce l+Qtn ks
 | [],ls,ks=>by rw [Qbr];simp
 | x :: r,ls,ks=>by
  rw [Qbr]
  by_cases h:x.kids≠0
  ·have h1:=Qlo x.commas cs (ks.take (Qb0 x n).toNat) 0;have h2:=Qjr n tx cs r ls (ks.drop (Qb0 x n).toNat);have h3:=Qof ks (Qb0 x n).toNat;have h4:Qce r≤Qce (x :: r):=by rw [Qce];omega
   rw [xO h,xB];omega
  ·have h2:=Qjr n tx cs r (ls.drop 1) ks;have h4:Qce (x :: r)=1+Qce r:=by rw [Qce];simp only [ne_eq,Decidable.not_not] at h;simp [h] <;> omega
   rw [xN h,xD];omega
theorem Qxu (k:Int):Qce (Qae k)≤6:=by
 by_cases h0:k≤0∨23≤k
 ·rw [Qdv h0];exact xZ _
 ·rcases Qin h0 with rfl | rfl | rfl | rfl | rfl | rfl | rfl | rfl | rfl | rfl | rfl | rfl | rfl | rfl | rfl | rfl | rfl | rfl | rfl | rfl | rfl | rfl <;> decide
mutual
theorem Qog:(t:Tr)→(Qaf t).length+1≤7*Qak t
 | .mk k x ls ks=>by
  have h1:=Qjr (Qb4 (Qae k) ks.length).1 x (ls.drop (Qce (Qae k))) (Qae k) ls (Qgk ks);have h2:=Qxu k;have h3:=Qm8 ks;rw [Qaf,Qak];omega
theorem Qm8:(l:List Tr)→Qtn (Qgk l)≤7*Qaq l
 | []=>by rw [Qgk,Qtn];exact xZ _
 | t :: r=>by
  have:=Qog t
  have:=Qm8 r
  rw [Qgk,Qtn,Qaq];omega
end
def okP (M:Nat) (p:Qbl):Prop:=p.1.size≤M∧p.2.size≤M
theorem Zbr {M:Nat} {l:List ByteArray} (h:∀ y∈l,y.size≤M) (i:Nat):((l[i]?).getD ⟨#[]⟩).size≤M:=by
 cases hi:l[i]? with
 | none=>exact xZ _
 | some y=>exact h y (yA hi)
theorem Qm9 {M:Nat} (hM:1≤M) (co:Bool) {cs:List ByteArray} (hc:∀ y∈cs,y.size≤M):(l:List (List Qbl))→(i:Nat)→(∀ q∈l,∀ p∈q,okP M p)→∀ p∈Qa9 co cs i l,okP M p
 | [],i,_,p,hp=>by rw [Qa9] at hp;simp at hp
 | a :: r,i,h,p,hp=>by
  rw [Qa9] at hp
  rcases List.mem_append.1 hp with hp | hp
  ·rcases List.mem_append.1 hp with hp | hp
   ·split at hp
    ·simp at hp
     subst hp;exact ⟨Zbr hc _,hM⟩
    ·simp at hp
   ·exact h a (by simp) p hp
  ·exact Qm9 hM co hc r (i+1) (fun q hq=>h q (by simp [hq])) p hp
theorem Qk7 {M:Nat} (hM:1≤M) (n:Int) {tx:ByteArray} (ht:tx.size≤M) {cs:List ByteArray} (hc:∀ y∈cs,y.size≤M):(l:List Part)→(ls:List ByteArray)→(ks:List (List Qbl))→(∀ x∈l,x.word.size≤M)→(∀ y∈ls,y.size≤M)→(∀ q∈ks,∀ p∈q,okP M p)→∀ p∈Qbr n tx cs l ls ks,okP M p
 | [],ls,ks,_,_,_,p,hp=>by rw [Qbr] at hp;simp at hp
 | x :: r,ls,ks,hl,hs,hk,p,hp=>by
  rw [Qbr] at hp
  by_cases h:x.kids≠0
  ·rw [xO h] at hp
   rcases List.mem_append.1 hp with hp | hp
   ·exact Qm9 hM x.commas hc _ 0 (fun q hq=>hk q (List.mem_of_mem_take hq)) p hp
   ·exact Qk7 hM n ht hc r ls _ (fun y hy=>hl y (by simp [hy])) hs (fun q hq=>hk q (List.mem_of_mem_drop hq)) p hp
  ·rw [xN h] at hp
   rcases List.mem_cons.1 hp with rfl | hp
   ·refine ⟨Zbr hs _,?_⟩
    show (if x.nm≠0 then tx else x.word).size≤M
    split
    ·exact ht
    ·exact hl x (by simp)
   ·exact Qk7 hM n ht hc r _ ks (fun y hy=>hl y (by simp [hy])) (fun y hy=>hs y (List.mem_of_mem_drop hy)) hk p hp
theorem Zbs (k:Int):∀ x∈Qae k,x.word.size≤6:=by
 by_cases h0:k≤0∨23≤k
 ·rw [Qdv h0];intro x hx;simp at hx
 ·rcases Qin h0 with rfl | rfl | rfl | rfl | rfl | rfl | rfl | rfl | rfl | rfl | rfl | rfl | rfl | rfl | rfl | rfl | rfl | rfl | rfl | rfl | rfl | rfl <;> decide
mutual
theorem Qrh {M:Nat} (hM:6≤M):(t:Tr)→Qry t≤M→∀ p∈Qaf t,okP M p
 | .mk k x ls ks,h,p,hp=>by
  rw [Qry] at h;rw [Qaf] at hp;have hls:∀ y∈ls,y.size≤M:=fun y hy=>by have:=Zbq hy;omega
  exact Qk7 (by omega) _ (by omega) (fun y hy=>hls y (List.mem_of_mem_drop hy)) _ _ _ (fun y hy=>xQ (Zbs k y hy) hM) hls (Qoh hM ks (by omega)) p hp
theorem Qoh {M:Nat} (hM:6≤M):(l:List Tr)→Qwi l≤M→∀ q∈Qgk l,∀ p∈q,okP M p
 | [],_,q,hq=>by rw [Qgk] at hq;simp at hq
 | t :: r,h,q,hq=>by
  rw [Qwi] at h;rw [Qgk] at hq
  rcases List.mem_cons.1 hq with rfl | hq
  ·exact Qrh hM t (by omega)
  ·exact Qoh hM r (by omega) q hq
end
theorem Qu3 {M:Nat}:(ps:List Qbl)→(∀ p∈ps,okP M p)→Qgj ps≤ps.length*(2*M+1)
 | [],_=>by rw [Qgj];exact xZ _
 | p :: r,h=>by
  have h1:=Qu3 r (fun q hq=>h q (by simp [hq]));have h2:=h p (by simp);unfold okP at h2;rw [Qgj,xD,Nat.add_mul,Nat.one_mul];omega
theorem Qoi {t:Tr} (hz:Qak t≤1000):(Qaf t).length≤7000:=by have:=Qog t;omega
theorem Qto {t:Tr} (hz:Qak t≤1000) (hc:Qry t≤1048576):Qgj (Qaf t)≤10000000000000:=by
 have h1:=Qu3 (M:=1048576) (Qaf t) (Qrh (by decide) t hc);have h2:=Qoi hz;have h3:(Qaf t).length*(2*1048576+1)≤7000*(2*1048576+1):=Nat.mul_le_mul_right _ h2;omega
end Go.Proofs.YtfjpemdejoejbaaGreat
namespace Go.Proofs.YtfjpemdejoejbaaGreat
open Go.RowKit Go.Shelf
def ArrQ (n:Nat) (k:Int) (w:World) (e:Ending) (w':World):Prop:=∃ (t':Tr) (u:TV),e = .returned (.agg #[.int .i64 u.kind,.string u.text,.slice u.la u.ll u.lc,.slice u.ka u.kl u.kc])∧TrAt (fun b=>w.heap.size≤b∧b<w'.heap.size) w' t' u∧Qak t'≤n∧Qe6 t'=true∧Below w.heap.size w w'∧(t'.kind=k∨t'.kind=0)
theorem Zhb (S:Nat→Prop) (t:Tr) (v:TV) (w:World) (h:TrAt S w t v) (hti:Qe6 t=true) (hsz:Qak t≤1000) :
  Calls Tryz.prog 67 #[.agg #[.int .i64 v.kind,.string v.text,.slice v.la v.ll v.lc,.slice v.ka v.kl v.kc]] w (ArrQ (Qak t) t.kind w):=by
 have HTI:=hQ hti;have HSZ:=hQ hsz;have HW:=hQ (Qki t (by have:=Ql3 t hti;omega));have HW0:=hQ (((xC w.heap.size w).alloc (xA _) (trO v)).alloc (by rw [xI];omega) (.cells #[.int .i64 0,.string ⟨#[]⟩,.slice none 0 0,.slice none 0 0] 25));have HT:=hQ (TrAt.keep (TrAt.low t v h) HW0.out);have HX:=hQ (show ((w.alloc (trO v)).alloc (.cells #[.int .i64 0,.string ⟨#[]⟩,.slice none 0 0,.slice none 0 0] 25)).heap[w.heap.size]? = some (trO v) from (((xC (w.alloc (trO v)).heap.size _).alloc (xA _) _).block w.heap.size (by simp)).trans (xH w _));have HR:=hQ (show ((w.alloc (trO v)).alloc (.cells #[.int .i64 0,.string ⟨#[]⟩,.slice none 0 0,.slice none 0 0] 25)).heap[w.heap.size+1]? = some (.cells #[.int .i64 0,.string ⟨#[]⟩,.slice none 0 0,.slice none 0 0] 25 (0,0)) from by rw [←xI w (trO v)];exact xH _ _);have HS1:=hQ (show 1≤Qak t from by rw [Qa7];omega);clear h hti hsz;cases hs:Qcy t with
 | false =>
  go_enter Tryz.func67,Tryz.ntmps67
  go_wp2_with fail
  go_at_call 31;refine (Qh2 _ (fun k=>k<w.heap.size) t v _ (xA _) HT.out HSZ.out HW.out).mono ?_;rw [hs];rintro e w2 ⟨rfl,hb2⟩;have HB2:=hQ (HW0.out.trans (hb2.mono HW0.out.size));obtain ⟨x0,x1,x2,x3,xl,xf⟩:=Qai ((hb2.block (w.heap.size+1) (Qaa HR.out)).trans HR.out);clear hb2
  go_wp2
  refine bodyPost_ret (v:=.agg #[.int .i64 0,.string ⟨#[]⟩,.slice none 0 0,.slice none 0 0]) (by simp [results,Tryz.results67,go_sem, *]) rfl ?_;exact ⟨.mk 0 ⟨#[]⟩ [] [],⟨0,⟨#[]⟩,none,0,0,none,0,0⟩,rfl,Zbd _ _ _ _,by rw [Qak,Qaq];exact HS1.out,Qbz.2 ⟨by decide,by simp,by simp,by rw [Qbm]⟩,HB2.out.trans ((Qbk w2 (w.heap.size+1) ⟨0,⟨#[]⟩,none,0,0,none,0,0⟩).mono (Nat.le_succ _)),.inr rfl⟩
 | true =>
  have HSH:=hQ hs
  go_enter Tryz.func67,Tryz.ntmps67
  go_wp2_with fail
  go_at_call 31;refine (Qh2 _ (fun k=>k<w.heap.size) t v _ (xA _) HT.out HSZ.out HW.out).mono ?_;rw [hs];rintro e w2 ⟨rfl,hb2⟩;have HB2:=hQ (HW0.out.trans (hb2.mono HW0.out.size));have HT2:=hQ (HT.out.keep hb2);have HR2:=hQ ((hb2.block (w.heap.size+1) (Qaa HR.out)).trans HR.out);have hx2:=(hb2.block w.heap.size (Qaa HX.out)).trans HX.out;have k0:w2.cell? ⟨w.heap.size,0,none⟩=some (.int .i64 v.kind):=Qab hx2 0 _ rfl;have k1:w2.cell? ⟨w.heap.size,1,none⟩=some (.string v.text):=Qab hx2 1 _ rfl;have k2:w2.cell? ⟨w.heap.size,2,none⟩=some (.slice v.la v.ll v.lc):=Qab hx2 2 _ rfl;have k3:w2.cell? ⟨w.heap.size,3,none⟩=some (.slice v.ka v.kl v.kc):=Qab hx2 3 _ rfl;have kl:w.heap.size<w2.heap.size:=Qaa hx2;clear hb2 hs hx2;go_wp2_with fail
  go_at_call 102;refine (Qtk _ (fun k=>k<w.heap.size) t v ⟨#[]⟩ w2 (xA _) HT2.out HSH.out HTI.out HSZ.out (by decide)).mono ?_;rintro e w3 ⟨t',u,rfl,hu,hz,hy,hb3,hk3⟩;have HK3:=hQ (show t'.kind=t.kind from hk3);have HU:=hQ hu;have HZ:=hQ hz;have HY:=hQ hy;have HB3:=hQ (HB2.out.trans (hb3.mono HB2.out.size));have HS2:=hQ (show w.heap.size+1<w2.heap.size from Qaa HR2.out);obtain ⟨x0,x1,x2,x3,xl,xf⟩:=Qai ((hb3.block (w.heap.size+1) (Qaa HR2.out)).trans HR2.out);clear hu hz hy hb3 hk3 k0 k1 k2 k3 kl
  go_wp2
  refine bodyPost_ret (v:=.agg #[.int .i64 u.kind,.string u.text,.slice u.la u.ll u.lc,.slice u.ka u.kl u.kc]) (by simp [results,Tryz.results67,go_sem, *]) rfl ?_;exact ⟨t',u,rfl,TrAt.move (fun b hb=>⟨by have:=HS2.out;omega,Nat.lt_of_lt_of_eq hb.2 (Qb3 w3 (w.heap.size+1) u).symm⟩) (fun b hb _=>Qa1 u (by have:=HS2.out;omega)) _ _ HU.out,Nat.le_of_eq HZ.out,HY.out,HB3.out.trans ((Qbk w3 (w.heap.size+1) u).mono (Nat.le_succ _)),.inl HK3.out⟩
mutual
def Qe4 (P:List Int→Bool) (y:ByteArray):Tr→List Int→Tr
 | .mk k x ls ks,p=>.mk k (if P p then y else x) ls (Qg6 P y ks 0 p)
def Qg6 (P:List Int→Bool) (y:ByteArray):List Tr→Nat→List Int→List Tr
 | [],_,_=>[]
 | a :: r,i,p=>Qe4 P y a (p ++ [(i:Int)]) :: Qg6 P y r (i+1) p
end
theorem Ql4 (P:List Int→Bool) (y:ByteArray) (t:Tr) (p:List Int):(Qe4 P y t p).kind=t.kind:=by cases t;rw [Qe4];rfl
theorem Qu5 (P:List Int→Bool) (y:ByteArray) (t:Tr) (p:List Int):(Qe4 P y t p).text=if P p then y else t.text:=by cases t;rw [Qe4];rfl
theorem Qpr (P:List Int→Bool) (y:ByteArray) (t:Tr) (p:List Int):(Qe4 P y t p).kids=Qg6 P y t.kids 0 p:=by cases t;rw [Qe4];rfl
theorem Qi6 (P:List Int→Bool) (y:ByteArray) (p:List Int):(l:List Tr)→(i:Nat)→(Qg6 P y l i p).length=l.length
 | [],_=>by rw [Qg6]
 | a :: r,i=>by rw [Qg6,xD,Qi6 P y p r,xD]
theorem Qps (P:List Int→Bool) (y:ByteArray) (p:List Int):(l:List Tr)→(i j:Nat)→(Qg6 P y l i p)[j]? = (l[j]?).map fun a=>Qe4 P y a (p ++ [((i+j:Nat):Int)])
 | [],_,j=>by rw [Qg6];simp
 | a :: r,i,0=>by rw [Qg6];simp
 | a :: r,i,j+1=>by
  rw [Qg6,List.getElem?_cons_succ,List.getElem?_cons_succ,Qps P y p r (i+1) j,show i+1+j=i+(j+1) from by omega]
theorem Qi7 (P:List Int→Bool) (y:ByteArray):(zs:List Int)→(t:Tr)→(p:List Int)→Qaz (Qe4 P y t p) zs=(Qaz t zs).map fun u=>Qe4 P y u (p ++ zs)
 | [],t,p=>by unfold Qaz;rw [List.append_nil];rfl
 | z :: r,t,p=>by
  have hb:Qjn (Qe4 P y t p) z=Qjn t z:=by unfold Qjn;rw [Qpr,Qi6]
  unfold Qaz;rw [hb]
  cases h:Qjn t z
  ·rfl
  ·obtain ⟨h1,h2,h3⟩:=Qd7 h
   have hk:Qep (Qe4 P y t p) z=Qe4 P y (Qep t z) (p ++ [z]):=by
    show ((Qe4 P y t p).kids[z.toNat]?).getD Qlq=_
    rw [Qpr,Qps,h3]
    show Qe4 P y (Qep t z) (p ++ [((0+z.toNat:Nat):Int)])=_
    rw [show ((0+z.toNat:Nat):Int)=z from by omega]
   rw [xO rfl,xO rfl,hk,Qi7 P y r,xT];rfl
mutual
theorem Qrm (P:List Int→Bool) (y:ByteArray):(t:Tr)→(p q:List Int)→Qh8 (Qe4 P y t p) q=Qh8 t q
 | .mk k x ls ks,p,q=>by rw [Qe4,Qh8,Qh8,Qok P y ks 0 p 0 q]
theorem Qok (P:List Int→Bool) (y:ByteArray):(l:List Tr)→(i:Nat)→(p:List Int)→(j:Nat)→(q:List Int)→Qgy (Qg6 P y l i p) j q=Qgy l j q
 | [],_,_,_,_=>by rw [Qg6]
 | a :: r,i,p,j,q=>by rw [Qg6,Qgy,Qgy,Qrm P y a,Qok P y r]
end
mutual
theorem Qpt (P:List Int→Bool) (y:ByteArray):(t:Tr)→(p:List Int)→Qak (Qe4 P y t p)=Qak t
 | .mk k x ls ks,p=>by rw [Qe4,Qak,Qak,Qrn P y ks]
theorem Qrn (P:List Int→Bool) (y:ByteArray):(l:List Tr)→(i:Nat)→(p:List Int)→Qaq (Qg6 P y l i p)=Qaq l
 | [],_,_=>by rw [Qg6]
 | a :: r,i,p=>by rw [Qg6,Qaq,Qaq,Qpt P y a,Qrn P y r]
end
mutual
theorem Qol (P:List Int→Bool) (y:ByteArray):(t:Tr)→(p:List Int)→Qan t=true→(∀ r u,Qaz t r=some u→P (p ++ r)=true→Qbn (Qae u.kind) y=true)→Qan (Qe4 P y t p)=true
 | .mk k x ls ks,p,h,hc=>by
  rw [Qan,Bool.and_eq_true,Bool.and_eq_true] at h;rw [Qe4,Qan,Qi6,Bool.and_eq_true,Bool.and_eq_true]
  refine ⟨⟨h.1.1,?_⟩,Qnc P y ks 0 p _ h.2 fun j a ha r u hu hp=>?_⟩
  ·cases hp:P p
   ·exact h.1.2
   ·exact hc [] (.mk k x ls ks) (by unfold Qaz;rfl) (by rw [List.append_nil];exact hp)
  ·obtain ⟨k1,k2⟩:=Qtf (t:=.mk k x ls ks) (k:=a) (j:=j) ha;exact hc ((j:Int) :: r) u (by unfold Qaz;rw [xO k1,k2];exact hu) (by rw [Nat.zero_add] at hp;exact hp)
theorem Qnc (P:List Int→Bool) (y:ByteArray):(l:List Tr)→(i:Nat)→(p:List Int)→(ss:List Int)→Qc1 l ss=true→(∀ j a,l[j]? = some a→∀ r u,Qaz a r=some u→P (p ++ (((i+j:Nat):Int) :: r))=true→Qbn (Qae u.kind) y=true)→Qc1 (Qg6 P y l i p) ss=true
 | [],_,_,_,_,_=>by rw [Qg6,Qc1]
 | a :: r,i,p,[],_,_=>by rw [Qg6,Qc1]
 | a :: r,i,p,s :: ss,h,hc=>by
  rw [Qc1,Bool.and_eq_true,Bool.and_eq_true] at h;rw [Qg6,Qc1,Ql4,Bool.and_eq_true,Bool.and_eq_true]
  refine ⟨⟨h.1.1,Qol P y a _ h.1.2 fun z u hu hp=>hc 0 a rfl z u hu ?_⟩,Qnc P y r (i+1) p ss h.2 fun j b hb z u hu hp=>hc (j+1) b (by rw [List.getElem?_cons_succ];exact hb) z u hu ?_⟩
  ·rw [xT] at hp;exact hp
  ·rw [show i+1+j=i+(j+1) from by omega] at hp;exact hp
end
theorem Qro (P:List Int→Bool) (y:ByteArray) (t:Tr) (zs:List Int):(k:Nat)→Qm5 (Qe4 P y t []) zs k=Qm5 t zs k
 | 0=>by rw [Qm5,Qm5]
 | k+1=>by
  have h:Qxb (Qe4 P y t []) zs k=Qxb t zs k:=by
   unfold Qxb;rw [Qi7];cases Qaz t (zs.take k) with
   | none=>rfl
   | some u=>rw [Option.map_some,Option.getD_some,Option.getD_some,Ql4]
  rw [Qm5,Qm5,h,Qro P y t zs k]
theorem Qts (P:List Int→Bool) (y:ByteArray) (t:Tr) (zs:List Int):Qgp (Qe4 P y t []) zs=Qgp t zs:=by
 unfold Qgp;rw [Qi7,Option.isSome_map,Qpr,Qi6,Qro]
theorem Qom {t:Tr} (hf:Qfx t=true) (hz:Qak t≤1000) (zs:List Int):∀ q∈Qgp t zs,∃ k,Qaz t q=some k∧(k.kind=4∨k.kind=20):=by
 intro q hq;rw [Qut hf hz] at hq;obtain ⟨b,hb,rfl⟩:=List.mem_map.1 hq;rw [List.mem_reverse] at hb;obtain ⟨h2,hs⟩:=Qfs hf;unfold Qca at hb
 split at hb
 ·rename_i hc
  obtain ⟨w,hw⟩:=(Qh1 zs t 0).1 hc.2;obtain ⟨k,k1,_,k3⟩:=Qkf hs hz h2 zs t w [] [] (by unfold Qaz;rfl) hw (fun b hb=>by simp at hb) b hb;exact ⟨k,k1,k3⟩
 ·simp at hb
theorem Qon {z:List Int}:(l:List Tr)→(i j:Nat)→(a:Tr)→(p:List Int)→l[j]? = some a→z∈Qh8 a (p ++ [((i+j:Nat):Int)])→z∈Qgy l i p
 | [],_,j,_,_,h,_=>by simp at h
 | b :: r,i,0,a,p,h,hz=>by
  simp only [List.getElem?_cons_zero,Option.some.injEq] at h;subst h;rw [Qgy];exact List.mem_append_left _ hz
 | b :: r,i,j+1,a,p,h,hz=>by
  rw [Qgy];exact List.mem_append_right _ (Qon r (i+1) j a p (by rw [List.getElem?_cons_succ] at h;exact h) (by rw [show i+1+j=i+(j+1) from by omega];exact hz))
theorem Qrp:(zs:List Int)→(t u:Tr)→(p:List Int)→Qaz t zs=some u→p ++ zs∈Qh8 t p
 | [],t,u,p,_=>by rw [Qra,List.append_nil];exact List.mem_cons_self ..
 | z :: r,t,u,p,h=>by
  unfold Qaz at h
  cases hb:Qjn t z
  ·rw [hb] at h;cases h
  ·rw [hb,xO rfl] at h;obtain ⟨h1,h2,h3⟩:=Qd7 hb;rw [Qra];refine List.mem_cons_of_mem _ (Qon t.kids 0 z.toNat (Qep t z) p h3 ?_);rw [show ((0+z.toNat:Nat):Int)=z from by omega];have:=Qrp r (Qep t z) u (p ++ [z]) h
   rw [xT] at this;exact this
theorem Zb2 {α:Type} [DecidableEq α] {b:α}:(l:List α)→b∈l→(l.find? fun z=>decide (z=b))=some b
 | [],h=>by simp at h
 | a :: r,h=>by
  rw [List.find?_cons]
  by_cases hab:a=b
  ·rw [hab];simp
  ·rw [xR hab];exact Zb2 r ((List.mem_cons.1 h).resolve_left fun e=>hab e.symm)
theorem Qrq {α:Type} [DecidableEq α] {b:α} (q:α→Bool):(l:List α)→l.find? q≠some b→(l.find? fun z=>!decide (z=b) && q z)=l.find? q
 | [],_=>rfl
 | a :: r,h=>by
  rw [List.find?_cons] at h;rw [List.find?_cons,List.find?_cons]
  cases hq:q a
  ·rw [hq] at h;rw [Bool.and_false];exact Qrq q r h
  ·rw [hq] at h;have hab:a≠b:=fun e=>h (by rw [e])
   rw [xR hab];rfl
theorem Qk8 {α:Type} {p q:α→Bool}:(l:List α)→(∀ z∈l,p z=q z)→l.find? p=l.find? q
 | [],_=>rfl
 | a :: r,h=>by
  rw [List.find?_cons,List.find?_cons,h a (List.mem_cons_self ..),Qk8 r fun z hz=>h z (List.mem_cons_of_mem _ hz)]
theorem Qu6 {α β:Type} {f g:α→Option β}:(l:List α)→(∀ z∈l,f z=g z)→l.filterMap f=l.filterMap g
 | [],_=>rfl
 | a :: r,h=>by
  rw [List.filterMap_cons,List.filterMap_cons,h a (List.mem_cons_self ..),Qu6 r fun z hz=>h z (List.mem_cons_of_mem _ hz)]
def Qu7 (t:Tr) (b:List Int) (p:List Int):Bool:=decide (p=b) || (Qfo t).any fun v=>decide (v.1=p) && decide (v.2=some b)
theorem Zev {t:Tr} (hf:Qfx t=true) (hz:Qak t≤1000) {b:List Int} (hb:∃ k,Qaz t b=some k∧(k.kind=4∨k.kind=20)) {p:List Int} {u:Tr} (hu:Qaz t p=some u) (hk:u.kind=12):Qu7 t b p=decide (Qdo (Qca t p) u.text=some b):=by
 obtain ⟨k,k1,k2⟩:=hb;have hne:p≠b:=fun e=>by rw [e,k1] at hu;injection hu with e2;rw [e2] at k2;omega
 have hv:Qtj t p=some (p,Qdo (Qca t p) u.text):=by unfold Qtj;rw [hu];exact xO hk
 unfold Qu7;rw [xR hne,Bool.false_or,Bool.eq_iff_iff,decide_eq_true_iff,List.any_eq_true]
 constructor
 ·rintro ⟨v,hm,he⟩;rw [Bool.and_eq_true,decide_eq_true_iff,decide_eq_true_iff] at he;rw [Quw hf hz] at hm;obtain ⟨q,_,hq⟩:=List.mem_filterMap.1 hm
  have hqp:q=p:=by
   unfold Qtj at hq
   split at hq
   ·split at hq
    ·injection hq with hq;rw [←hq] at he;exact he.1
    ·cases hq
   ·cases hq
  rw [hqp,hv] at hq;injection hq with hq;rw [←hq] at he;exact he.2
 ·intro he;refine ⟨(p,some b),?_,by simp⟩;rw [Quw hf hz];exact List.mem_filterMap.2 ⟨p,by have:=Qrp p t u [] hu;simpa using this,by rw [hv,he]⟩
theorem Qu8 {t:Tr} (hz:Qak t≤1000) {b p:List Int} {u:Tr} (hu:Qaz t p=some u) (hk:u.kind≠12):Qu7 t b p=decide (p=b):=by
 unfold Qu7;rw [List.any_eq_false.2 fun v hv h=>?_,Bool.or_false];rw [Bool.and_eq_true,decide_eq_true_iff,decide_eq_true_iff] at h;obtain ⟨w,w1,w2,_⟩:=Qk2 hz hv;rw [h.1,hu] at w1;injection w1 with w1;rw [w1] at hk;exact hk w2
theorem Zew {t:Tr} (hf:Qfx t=true) (hz:Qak t≤1000) {y:ByteArray} {b:List Int} (hnew:∀ r u,Qaz t r=some u→u.text≠y) (hy:∀ k:Int,k=4∨k=12∨k=20→Qbn (Qae k) y=true)
  (hb:∃ k,Qaz t b=some k∧(k.kind=4∨k.kind=20)):Qfx (Qe4 (Qu7 t b) y t [])=true∧Qfo (Qe4 (Qu7 t b) y t [])=Qfo t:=by
 obtain ⟨h2,hs⟩:=Qfs hf
 have hsr:Qan (Qe4 (Qu7 t b) y t [])=true:=Qol _ y t [] hs fun r u hu hp=>by
  rw [xU] at hp
  by_cases hk:u.kind=12
  ·exact hy _ (.inr (.inl hk))
  ·rw [Qu8 hz hu hk,decide_eq_true_iff] at hp;obtain ⟨k,k1,k2⟩:=hb;rw [hp,k1] at hu;injection hu with hu;rw [←hu];exact hy _ (by omega)
 have hfr:Qfx (Qe4 (Qu7 t b) y t [])=true:=by unfold Qfx;rw [Ql4,hsr,xS h2];rfl
 have hzr:Qak (Qe4 (Qu7 t b) y t [])≤1000:=by rw [Qpt];exact hz
 refine ⟨hfr,?_⟩;rw [Quw hfr hzr,Quw hf hz,Qrm];refine Qu6 _ fun p _=>?_
 unfold Qtj;rw [Qi7];cases hu:Qaz t p with
 | none=>rfl
 | some u =>
  rw [Option.map_some,xU]
  show (if (Qe4 (Qu7 t b) y u p).kind=12 then _ else _)=(if u.kind=12 then _ else _)
  rw [Ql4]
  by_cases hk:u.kind=12
  ·rw [xO hk,xO hk,Qti hfr hzr,Qti hf hz,Qts,Qu5];have hin:=Qti hf hz p u.text;have hPv:=Zev hf hz hb hu hk;rw [hin] at hPv
   have htx:∀ z∈Qgp t p,Qll (Qe4 (Qu7 t b) y t []) z=if z=b then y else Qll t z:=fun z hm=>by
    obtain ⟨k,k1,k2⟩:=Qom hf hz p z hm;unfold Qll;rw [Qi7,k1,Option.map_some,Option.getD_some,Option.getD_some,xU,Qu5,Qu8 hz k1 (by omega)]
    by_cases e:z=b
    ·rw [xO e,xS e];rfl
    ·rw [xN e,xR e];rfl
   have hty:∀ z∈Qgp t p,Qll t z≠y:=fun z hm=>by
    obtain ⟨k,k1,_⟩:=Qom hf hz p z hm;unfold Qll;rw [k1];exact hnew z k k1
   congr 2
   cases hp:Qu7 t b p
   ·rw [hp] at hPv;have hne:=of_decide_eq_false hPv.symm;rw [xN (by simp)];rw [←Qrq _ _ hne];refine Qk8 _ fun z hm=>?_
    rw [htx z hm]
    by_cases e:z=b
    ·rw [xO e,xS e,xR (fun h=>hnew p u hu h.symm)];rfl
    ·rw [xN e,xR e];rfl
   ·rw [hp] at hPv;have heq:=of_decide_eq_true hPv.symm;rw [xO rfl,heq,←Zb2 (Qgp t p) (List.mem_of_find?_eq_some heq)];refine Qk8 _ fun z hm=>?_
    rw [htx z hm]
    by_cases e:z=b
    ·rw [xO e,xS e];simp
    ·rw [xN e,xR e,xR (hty z hm)]
  ·rw [xN hk,xN hk]
mutual
theorem Zfc (P:List Int→Bool) (y:ByteArray):(t:Tr)→(p:List Int)→(∀ q,P (p ++ q)=false)→Qe4 P y t p=t
 | .mk k x ls ks,p,h=>by
  have h0:=h [];rw [List.append_nil] at h0;rw [Qe4,h0,Qtt P y ks 0 p fun j q=>h _];rfl
theorem Qtt (P:List Int→Bool) (y:ByteArray):(l:List Tr)→(i:Nat)→(p:List Int)→(∀ (j:Nat) (q:List Int),P (p ++ ((i+j:Nat):Int) :: q)=false)→Qg6 P y l i p=l
 | [],_,_,_=>by rw [Qg6]
 | a :: r,i,p,h=>by
  rw [Qg6,Zfc P y a (p ++ [(i:Int)]) fun q=>by rw [xT];exact h 0 q,Qtt P y r (i+1) p fun j q=>by rw [show i+1+j=i+(j+1) from by omega];exact h (j+1) q]
end
mutual
theorem Zb3 (P Q:List Int→Bool) (y:ByteArray):(t:Tr)→(p:List Int)→Qe4 Q y (Qe4 P y t p) p=Qe4 (fun z=>P z || Q z) y t p
 | .mk k x ls ks,p=>by
  rw [Qe4,Qe4,Qe4,Qu9 P Q y ks 0 p];cases P p <;> cases Q p <;> rfl
theorem Qu9 (P Q:List Int→Bool) (y:ByteArray):(l:List Tr)→(i:Nat)→(p:List Int)→Qg6 Q y (Qg6 P y l i p) i p=Qg6 (fun z=>P z || Q z) y l i p
 | [],_,_=>by rw [Qg6,Qg6,Qg6]
 | a :: r,i,p=>by rw [Qg6,Qg6,Qg6,Zb3 P Q y a,Qu9 P Q y r]
end
theorem Qtu (y:ByteArray):(z:List Int)→(t o:Tr)→(p:List Int)→Qaz t z=some o→Qpu z t (.mk o.kind y o.leads o.kids)=some (Qe4 (fun q=>decide (q=p ++ z)) y t p)
 | [],t,o,p,h=>by
  unfold Qaz at h;injection h with h;subst h;unfold Qpu;cases t with
  | mk k x ls ks =>
   rw [Qe4,List.append_nil,xS rfl,Qtt _ y ks 0 p fun j q=>xR fun e=>by
    have:=congrArg List.length e
    simp at this]
   rfl
 | i :: r,t,o,p,h=>by
  unfold Qaz at h
  cases hb:Qjn t i
  ·rw [hb] at h;cases h
  ·rw [hb,xO rfl] at h;obtain ⟨h1,h2,h3⟩:=Qd7 hb;unfold Qpu;rw [xO hb,Qtu y r (Qep t i) o (p ++ [i]) h,Option.map_some]
   congr 1
   cases t with
   | mk k x ls ks =>
    have hp:decide (p=p ++ i :: r)=false:=xR fun e=>by
     have:=congrArg List.length e
     simp at this
    rw [Qe4,hp]
    show Tr.mk k x ls _=Tr.mk k x ls _
    congr 1
    show ks.set i.toNat _=Qg6 _ y ks 0 p
    apply List.ext_getElem?
    intro j;rw [Qps,List.getElem?_set];have hlt:i.toNat<ks.length:=(xP.1 h3).1
    by_cases hj:i.toNat=j
    ·subst hj;rw [xO rfl,xO hlt,show (ks[i.toNat]?)=some (Qep (.mk k x ls ks) i) from h3,Option.map_some,show ((0+i.toNat:Nat):Int)=i from by omega,xT];rfl
    ·rw [xN hj];cases hk:ks[j]? with
     | none=>rfl
     | some a =>
      have hq:∀ q,decide (p ++ [((0+j:Nat):Int)] ++ q=p ++ i :: r)=false:=fun q=>xR fun e=>by
       rw [xT] at e;have e2:=List.append_cancel_left e;simp at e2
       omega
      rw [Option.map_some,Zfc _ y a _ hq]
mutual
theorem Zb4 (P:List Int→Bool) (y:ByteArray):(t:Tr)→(p:List Int)→Qmn (Qe4 P y t p)=Qmn t
 | .mk k x ls ks,p=>by rw [Qe4,Qmn,Qmn,Qva P y ks,Qi6]
theorem Qva (P:List Int→Bool) (y:ByteArray):(l:List Tr)→(i:Nat)→(p:List Int)→Qy8 (Qg6 P y l i p)=Qy8 l
 | [],_,_=>by rw [Qg6]
 | a :: r,i,p=>by rw [Qg6,Qy8,Qy8,Zb4 P y a,Qva P y r]
end
mutual
theorem Qrr (P:List Int→Bool) (y:ByteArray):(t:Tr)→(p:List Int)→Qcf (Qe4 P y t p)=Qcf t
 | .mk k x ls ks,p=>by rw [Qe4,Qcf,Qcf,Qoo P y ks,Qi6]
theorem Qoo (P:List Int→Bool) (y:ByteArray):(l:List Tr)→(i:Nat)→(p:List Int)→Qda (Qg6 P y l i p)=Qda l
 | [],_,_=>by rw [Qg6]
 | a :: r,i,p=>by rw [Qg6,Qda,Qda,Qrr P y a,Qoo P y r]
end
mutual
theorem Qrs (P:List Int→Bool) {y:ByteArray} (hy:y.size<maxLen):(t:Tr)→(p:List Int)→Qdb t=true→Qdb (Qe4 P y t p)=true
 | .mk k x ls ks,p,h=>by
  rw [Qdb,Bool.and_eq_true,Bool.and_eq_true] at h;rw [Qe4,Qdb,h.1.2,Qop P hy ks 0 p h.2]
  cases P p
  ·rw [xN (by simp),h.1.1];rfl
  ·rw [xO rfl,xS hy];rfl
theorem Qop (P:List Int→Bool) {y:ByteArray} (hy:y.size<maxLen):(l:List Tr)→(i:Nat)→(p:List Int)→Qh6 l=true→Qh6 (Qg6 P y l i p)=true
 | [],_,_,_=>by rw [Qg6,Qh6]
 | a :: r,i,p,h=>by
  rw [Qh6,Bool.and_eq_true] at h;rw [Qg6,Qh6,Qrs P hy a _ h.1,Qop P hy r _ _ h.2];rfl
end
def qx:ByteArray:=⟨#[113]⟩
def Qlp (t:Tr) (b:List Int) (k:Nat) (p:List Int):Bool:=decide (p=b) || ((Qfo t).take k).any fun v=>decide (v.1=p) && decide (v.2=some b)
theorem Zb5 (t:Tr) (b:List Int):Qlp t b 0=fun p=>decide (p=b):=by funext p;unfold Qlp;simp
theorem Zex (t:Tr) (b:List Int):Qlp t b (Qfo t).length=Qu7 t b:=by funext p;unfold Qlp Qu7;rw [List.take_length]
theorem Zb6 {t:Tr} {b:List Int} {k:Nat} {v:Vrb} (h:(Qfo t)[k]? = some v):Qlp t b (k+1)=if v.2=some b then fun p=>Qlp t b k p || decide (p=v.1) else Qlp t b k:=by
 funext p
 unfold Qlp;rw [List.take_add_one,h,Option.toList_some,List.any_append,List.any_cons,List.any_nil,Bool.or_false]
 by_cases e:v.2=some b
 ·rw [xO e,xS e,Bool.and_true,←Bool.or_assoc]
  congr 1
  rw [Bool.eq_iff_iff,decide_eq_true_iff,decide_eq_true_iff];exact ⟨Eq.symm,Eq.symm⟩
 ·rw [xN e,xR e,Bool.and_false,Bool.or_false]
theorem Zb7 {t o:Tr} {P:List Int→Bool} {y:ByteArray} {z:List Int} (h:Qaz (Qe4 P y t []) z=some o):Qpu z (Qe4 P y t []) (.mk o.kind y o.leads o.kids)=some (Qe4 (fun p=>P p || decide (p=z)) y t []):=by
 rw [Qtu y z _ o [] h,Zb3,xU]
theorem Zb8 {t u:Tr} {P:List Int→Bool} {y:ByteArray} {z:List Int} (h:Qaz t z=some u):∃ o,Qaz (Qe4 P y t []) z=some o:=⟨_,by rw [Qi7,h];rfl⟩
end Go.Proofs.YtfjpemdejoejbaaGreat
