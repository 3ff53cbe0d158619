/- Part 20 -/
import Derived.Test.YtfjpemdejoejbaaGreatTt17
import Derived.Deep.Cut
set_option maxRecDepth 100000
set_option maxHeartbeats 4000000
namespace Go.Proofs.YtfjpemdejoejbaaGreat
open Go.RowKit
theorem Qon {T:Int→PS→Option (Tr × PS)} {s:Int} {n:Nat} {t:Tr} {p:PS} {r:Tr × PS} (h:Qy3 T s (n+1) t p=some r) :
  (((s==5)=true∧opB (Qad p).text=true∧∃ u q,T 7 (Qft p)=some (u,q)∧Qy3 T s n (.mk 21 (Qad p).text [(Qad p).lead] [t,u]) q=some r)∨((s==5)=true∧opB (Qad p).text=false∧(t,p)=r))∨((s==5)=false∧(t,p)=r):=by
 unfold Qy3 at h
 by_cases hs:s=5
 ·by_cases ho:opB (Qad p).text=true
  ·rw [xO ⟨hs,ho⟩] at h;cases hT:T 7 (Qft p) with
   | none=>rw [hT] at h;cases h
   | some uq =>
    rw [hT] at h;exact .inl (.inl ⟨by simpa using hs,ho,uq.1,uq.2,rfl,h⟩)
  ·rw [xN (fun e=>ho e.2)] at h;exact .inl (.inr ⟨by simpa using hs,by simpa using ho,by simpa using h⟩)
 ·rw [xN (fun e=>hs e.1)] at h;exact .inr ⟨by simpa using hs,by simpa using h⟩
def Zej (T:Int→PS→Option (Tr × PS)) (s:Int) (r:Tr × PS) (b tb:Nat) (w:World) (g:Nat) (wr:World):Prop :=
 ∃ (t:Tr) (v:TV) (p:PS),Qy3 T s g t p=some r∧wr.heap[tb]? = some (.cells #[.int .i64 v.kind,.string v.text,.slice v.la v.ll v.lc,.slice v.ka v.kl v.kc] 25 (0,0))∧TrAt (fun k=>w.heap.size+1≤k∧k<wr.heap.size∧k≠tb) wr t v∧PIn wr b p∧Off b w wr∧wr.heap[w.heap.size]? = some (.cells #[.int .i64 0,.string ⟨#[]⟩,.slice none 0 0,.slice none 0 0] 25 (0,0))
theorem Qr0 {S S':Nat→Prop} {b:Nat} {w w':World} {t:Tr} {v:TV} (h:TrAt S w t v) (ho:Off b w w') (hb:∀ k,S k→k≠b) (hS:∀ k,S k→S' k):TrAt S' w' t v:=TrAt.move hS (fun k hk hlt=>ho.block k hlt (hb k hk)) t v h
theorem Zek {w:World} {L tb x1 x2:Nat} {text lead:ByteArray} {t u:Tr} {v1 v2:TV} (hl:w.cell? ⟨x1,0,none⟩=some (.string lead)) (h1:L≤x1∧x1≠tb) (h2:L≤x2∧x2≠tb)
  (hk:w.heap[x2]? = some (.cells #[.int .i64 v1.kind,.string v1.text,.slice v1.la v1.ll v1.lc,.slice v1.ka v1.kl v1.kc,.int .i64 v2.kind,.string v2.text,.slice v2.la v2.ll v2.lc,.slice v2.ka v2.kl v2.kc] 25 (0,0)))
  (ht:TrAt (fun k=>L≤k∧k<w.heap.size∧k≠tb) w t v1) (hu:TrAt (fun k=>L≤k∧k<w.heap.size∧k≠tb) w u v2) :
  TrAt (fun k=>L≤k∧k<w.heap.size∧k≠tb) w (.mk 21 text [lead] [t,u]) ⟨21,text,some ⟨x1,0,none⟩,1,1,some ⟨x2,0,none⟩,2,2⟩:=by
 have hx1:x1<w.heap.size:=xK w _ hl;have hx2:=Qab hk;unfold TrAt
 refine ⟨rfl,rfl,rfl,rfl,fun _=>⟨x1,0,rfl,⟨h1.1,hx1,h1.2⟩,fun i x hx=>?_⟩,fun _=>⟨x2,0,rfl,⟨h2.1,hx2,h2.2⟩,?_⟩,xA _,xA _⟩
 ·cases i with
  | zero=>simp at hx;subst hx;exact hl
  | succ i=>simp at hx
 ·unfold TrsAt;refine ⟨v1,Qaa hk 0 _ rfl,Qaa hk 1 _ rfl,Qaa hk 2 _ rfl,Qaa hk 3 _ rfl,ht,?_⟩;unfold TrsAt;exact ⟨v2,Qaa hk 4 _ rfl,Qaa hk 5 _ rfl,Qaa hk 6 _ rfl,Qaa hk 7 _ rfl,hu,trivial⟩
theorem Ql4 {n:Nat} {s:Int} {p:PS} {r:Tr × PS} (h:Qgj (n+1) s p=some r) :
  ((Qbe s p==0)=true∧(noTr,Qib p 2)=r)∨((Qbe s p==0)=false∧∃ t q,Qff (Qgj n) n (Qbe s p) (Qae (Qbe s p)) ⟨#[]⟩ [] [] [] p=some (t,q)∧Qy3 (Qgj n) s n t q=some r):=by
 unfold Qgj at h
 by_cases hb:Qbe s p=0
 ·rw [xO hb] at h;exact .inl ⟨by simpa using hb,by simpa using h⟩
 ·rw [xN hb] at h;refine .inr ⟨by simpa using hb,?_⟩;cases hN:Qff (Qgj n) n (Qbe s p) (Qae (Qbe s p)) ⟨#[]⟩ [] [] [] p with
  | none=>rw [hN] at h;cases h
  | some tq=>rw [hN] at h;exact ⟨tq.1,tq.2,rfl,h⟩
theorem Zcn {n:Nat} (hT:Qtu (Qgj n)) (hN:Zcj (fun k p=>Qff (Qgj n) n k (Qae k) ⟨#[]⟩ [] [] [] p)):Qtu (Qgj (n+1)):=by
 intro b s p t q w hr h;have HI:=hQ h;have HTC:=hQ hT;have HNC:=hQ hN;have HW0:=hQ ((xC w.heap.size w).alloc (xA _) (.cells #[.int .i64 0,.string ⟨#[]⟩,.slice none 0 0,.slice none 0 0] 25));have HG0:=hQ (xH w (.cells #[.int .i64 0,.string ⟨#[]⟩,.slice none 0 0,.slice none 0 0] 25));have HLT:=hQ h.lt;clear h hT hN
 rcases Ql4 hr with ⟨hb,he⟩|⟨hb,t0,q0,hn,ho⟩
 ·have HE:=hQ he;clear he hr
  go_enter Tryz.func85,Tryz.ntmps85
  go_wp2_with fail
  go_at_call 130;refine (Qcg s _ (HI.out.keep HW0.out)).mono ?_;rintro e w1 ⟨rfl,hb1⟩;have HB1:=hQ hb1;have HO1:=hQ (HW0.out.trans (hb1.mono HW0.out.size));clear hb1;go_wp2_with fail
  go_at_call 131;refine (Qj6 (x:=2) _ (HI.out.keep HO1.out)).mono ?_;rintro e w2 ⟨rfl,hp2,ho2⟩;have HP2:=hQ hp2;have HO2:=hQ ((Off.of HO1.out).trans ho2);have g2:=(ho2.block w.heap.size (by have:=HB1.out.size;rw [xI] at this;omega) (by have:=HLT.out;omega)).trans ((HB1.out.block w.heap.size (by simp)).trans HG0.out);have HG2:=hQ g2;clear hp2 ho2;have r0:=Qaa g2 0 _ rfl;have r1:=Qaa g2 1 _ rfl;have r2:=Qaa g2 2 _ rfl;have r3:=Qaa g2 3 _ rfl;have rf:=xL g2;clear g2
  go_wp2
  refine bodyPost_ret (v:=.agg #[.int .i64 0,.string ⟨#[]⟩,.slice none 0 0,.slice none 0 0]) (by simp [results,Tryz.results85,go_sem, *]) rfl ?_;have he:=HE.out;injection he with he1 he2;subst he1 he2;have hoff:=(((HO2.out.setNew (xA _) 0 (.int .i64 0)).setNew (xA _) 1 (.string ⟨#[]⟩)).setNew (xA _) 2 (.slice none 0 0)).setNew (xA _) 3 (.slice none 0 0)
  refine ⟨⟨0,⟨#[]⟩,none,0,0,none,0,0⟩,rfl,?_,?_,hoff⟩
  ·unfold noTr TrAt;exact ⟨rfl,rfl,rfl,rfl,fun h=>absurd rfl h,fun h=>absurd rfl h,xA _,xA _⟩
  ·have hl:=HP2.out.lt;have hl2:=HLT.out;exact HP2.out.upto fun k hk=>(((Rest.set1 w.heap.size 0 (.int .i64 0)).trans (Rest.set1 w.heap.size 1 (.string ⟨#[]⟩))).trans ((Rest.set1 w.heap.size 2 (.slice none 0 0)).trans (Rest.set1 w.heap.size 3 (.slice none 0 0)))).block k (by omega) (fun e:k=w.heap.size=>by omega)
 ·have HN0:=hQ hn;have HOP:=hQ ho;clear hn ho hr
  go_enter Tryz.func85,Tryz.ntmps85
  go_wp2_with fail
  go_at_call 130;refine (Qcg s _ (HI.out.keep HW0.out)).mono ?_;rintro e w1 ⟨rfl,hb1⟩;have HB1:=hQ hb1;have HO1:=hQ (HW0.out.trans (hb1.mono HW0.out.size));clear hb1;go_wp2_with fail
  go_at_call 52;refine (HNC.out b _ p t0 q0 _ HN0.out (HI.out.keep HO1.out)).mono ?_;rintro e w2 ⟨v0,rfl,htr,hp2,ho2⟩;have HP2:=hQ hp2;have HTR0:=hQ htr;have HON:=hQ ho2;have HW1:=hQ (show w.heap.size+1≤w1.heap.size from by have:=HB1.out.size;rw [xI] at this;omega);have HO2:=hQ ((Off.of HO1.out).trans ho2);have HG2:=hQ ((ho2.block w.heap.size (by have:=HW1.out;omega) (by have:=HLT.out;omega)).trans ((HB1.out.block w.heap.size (by simp)).trans HG0.out));clear hp2 ho2 htr;go_wp2_with fail
  generalize htb:w2.heap.size=tb
  have HTB:=hQ htb;clear htb
  go_loopg [] n (fun g wr=>Zej (Qgj n) s (t,q) b tb w g wr)
  case atStart =>
   have hS:Off b w2 (w2.alloc (.cells #[.int .i64 v0.kind,.string v0.text,.slice v0.la v0.ll v0.lc,.slice v0.ka v0.kl v0.kc] 25)):=Off.alloc _;refine ⟨t0,v0,q0,HOP.out,by rw [←HTB.out];exact xH w2 _,Qr0 HTR0.out hS (fun k hk=>by have:=HLT.out;have:=HW1.out;have:=hk.1;omega) (fun k hk=>⟨by have:=HW1.out;have:=hk.1;omega,by rw [xI];have:=hk.2;omega,by have:=hk.2;have:=HTB.out;omega⟩),HP2.out.keep ((xC _ _).alloc (xA _) _),HO2.out.trans hS,(hS.block w.heap.size (Qab HG2.out) (by have:=HLT.out;omega)).trans HG2.out⟩
  case round =>
   obtain ⟨tt,v,p',hop,hv,htr,hp,hof,hrb⟩:=hrel;have HV:=hQ hv;have HTR:=hQ htr;have HPP:=hQ hp;have HOF:=hQ hof;have HRB:=hQ hrb
   obtain ⟨g,hg⟩:∃ g,gk=g+1:=by
    cases gk with
    | zero=>unfold Qy3 at hop;cases hop
    | succ g=>exact ⟨g,rfl⟩
   rw [hg] at hop;have HG:=hQ hg;clear hv htr hp hof hrb hg
   rcases Qon hop with (⟨hs5,hob,u,q1,hu,hnx⟩|⟨hs5,hob,he⟩) | ⟨hs5,he⟩
   ·have HU:=hQ hu;have HNX:=hQ hnx;clear hu hnx hop;go_wp2_with fail
    go_at_call 132;refine (Qax _ HPP.out).mono ?_;rintro e w3 ⟨rfl,hb3⟩;have HB3:=hQ hb3;clear hb3;go_wp2_with fail
    go_at_call 134;refine (Qfm (Qad p') _).mono ?_;rintro e w4 ⟨rfl,hb4⟩;have HB4:=hQ hb4;clear hb4;go_wp2_with fail
    go_at_call 133;refine (Qfn _ ((HPP.out.keep HB3.out).keep HB4.out)).mono ?_;rintro e w5 ⟨rfl,hp5,ho5⟩;have HP5:=hQ hp5;have HO5:=hQ (((Off.of HB3.out).trans (Off.of HB4.out)).trans ho5);clear hp5 ho5;go_wp2_with fail
    go_at_call 85;have HA5:=hQ ((xC w5.heap.size w5).alloc (xA _) (.cells #[.int .i64 (Qad p').kind,.string (Qad p').lead,.string (Qad p').text] 88));refine (HTC.out b 7 _ u q1 _ HU.out (HP5.out.keep HA5.out)).mono ?_;rintro e w6 ⟨v6,rfl,htr6,hp6,ho6⟩;have HP6:=hQ hp6;have HT6:=hQ htr6;have HTK:=hQ ((ho6.block w5.heap.size (by simp) (by have:=HP5.out.lt;omega)).trans (xH w5 _));have HO6:=hQ (HO5.out.trans ((Off.alloc _).trans ho6));have HS6:=hQ (show wr.heap.size≤w5.heap.size∧w5.heap.size+1≤w6.heap.size from ⟨HO5.out.size,by have:=ho6.size;rw [xI] at this;omega⟩);clear hp6 htr6 ho6
    go_upto_region 9 with fail
    have HD7:=hQ (Off.alloc (b:=b) (w:=w6) (.cells #[.int .i64 v6.kind,.string v6.text,.slice v6.la v6.ll v6.lc,.slice v6.ka v6.kl v6.kc] 25));have HB7:=hQ ((xC w6.heap.size w6).alloc (xA _) (.cells #[.int .i64 v6.kind,.string v6.text,.slice v6.la v6.ll v6.lc,.slice v6.ka v6.kl v6.kc] 25));have HS7:=hQ (show (w6.alloc (.cells #[.int .i64 v6.kind,.string v6.text,.slice v6.la v6.ll v6.lc,.slice v6.ka v6.kl v6.kc] 25)).heap.size=w6.heap.size+1 from by simp);have G8:=xH w6 (.cells #[.int .i64 v6.kind,.string v6.text,.slice v6.la v6.ll v6.lc,.slice v6.ka v6.kl v6.kc] 25)
    generalize (w6.alloc (.cells #[.int .i64 v6.kind,.string v6.text,.slice v6.la v6.ll v6.lc,.slice v6.ka v6.kl v6.kc] 25))=w7 at HD7 HB7 HS7 G8 ⊢
    generalize ht8:w6.heap.size=t8 at G8 ⊢
    have HT8:=hQ ht8;have HV6:=hQ (((HO6.out.trans HD7.out).block tb (Qab HV.out) (by have:=HTB.out;have:=HP2.out.lt;omega)).trans HV.out);have HRB6:=hQ (((HO6.out.trans HD7.out).block w.heap.size (Qab HRB.out) (by have:=HLT.out;omega)).trans HRB.out);have HTK7:=hQ ((HD7.out.block w5.heap.size (Qab HTK.out) (by have:=HP5.out.lt;omega)).trans HTK.out);have y1:w7.cell? ⟨w5.heap.size,1,none⟩=some (.string (Qad p').lead):=Qaa HTK7.out 1 _ rfl;have y2:w7.cell? ⟨w5.heap.size,2,none⟩=some (.string (Qad p').text):=Qaa HTK7.out 2 _ rfl;have k0:w7.cell? ⟨tb,0,none⟩=some (.int .i64 v.kind):=Qaa HV6.out 0 _ rfl;have k1:w7.cell? ⟨tb,1,none⟩=some (.string v.text):=Qaa HV6.out 1 _ rfl;have k2:w7.cell? ⟨tb,2,none⟩=some (.slice v.la v.ll v.lc):=Qaa HV6.out 2 _ rfl;have k3:w7.cell? ⟨tb,3,none⟩=some (.slice v.ka v.kl v.kc):=Qaa HV6.out 3 _ rfl;have j0:w7.cell? ⟨t8,0,none⟩=some (.int .i64 v6.kind):=Qaa G8 0 _ rfl;have j1:w7.cell? ⟨t8,1,none⟩=some (.string v6.text):=Qaa G8 1 _ rfl;have j2:w7.cell? ⟨t8,2,none⟩=some (.slice v6.la v6.ll v6.lc):=Qaa G8 2 _ rfl;have j3:w7.cell? ⟨t8,3,none⟩=some (.slice v6.ka v6.kl v6.kc):=Qaa G8 3 _ rfl;have e1:=Qab HTK7.out;have e2:=Qab HV6.out;have e3:=Qab G8;have hd:Off b w7 ((w7.alloc (.cells #[.string (Qad p').lead] 9)).alloc (.cells #[.int .i64 v.kind,.string v.text,.slice v.la v.ll v.lc,.slice v.ka v.kl v.kc,.int .i64 v6.kind,.string v6.text,.slice v6.la v6.ll v6.lc,.slice v6.ka v6.kl v6.kc] 25)):=(Off.alloc _).trans (Off.alloc _);have HD:=hQ (HD7.out.trans hd);have hx1:((w7.alloc (.cells #[.string (Qad p').lead] 9)).alloc (.cells #[.int .i64 v.kind,.string v.text,.slice v.la v.ll v.lc,.slice v.ka v.kl v.kc,.int .i64 v6.kind,.string v6.text,.slice v6.la v6.ll v6.lc,.slice v6.ka v6.kl v6.kc] 25)).heap[w7.heap.size]? = some (.cells #[.string (Qad p').lead] 9 (0,0)):=(Below.heap_alloc _ _ _ (by simp)).trans (xH w7 _);have hx2:((w7.alloc (.cells #[.string (Qad p').lead] 9)).alloc (.cells #[.int .i64 v.kind,.string v.text,.slice v.la v.ll v.lc,.slice v.ka v.kl v.kc,.int .i64 v6.kind,.string v6.text,.slice v6.la v6.ll v6.lc,.slice v6.ka v6.kl v6.kc] 25)).heap[w7.heap.size+1]? = some (.cells #[.int .i64 v.kind,.string v.text,.slice v.la v.ll v.lc,.slice v.ka v.kl v.kc,.int .i64 v6.kind,.string v6.text,.slice v6.la v6.ll v6.lc,.slice v6.ka v6.kl v6.kc] 25 (0,0)):=Qhy w7 _ _ _;have HX1:=hQ hx1;have HX2:=hQ hx2;have HSA:=hQ (show ((w7.alloc (.cells #[.string (Qad p').lead] 9)).alloc (.cells #[.int .i64 v.kind,.string v.text,.slice v.la v.ll v.lc,.slice v.ka v.kl v.kc,.int .i64 v6.kind,.string v6.text,.slice v6.la v6.ll v6.lc,.slice v6.ka v6.kl v6.kc] 25)).heap.size=w7.heap.size+1+1 from by simp);have HV7:=hQ ((hd.block tb (Qab HV6.out) (by have:=HTB.out;have:=HP2.out.lt;omega)).trans HV6.out);have kf7:=xL HV7.out;have kf6:=xL HV6.out;clear hd hx1 hx2 G8 ht8;go_wp2_with fail
    go_roundg g
    case measure=>have:=HG.out;omega
    case rel =>
     have hR:Rest (fun k=>k=tb) w7 ((((w7.setCell ⟨tb,0,none⟩ (.int .i64 21)).setCell ⟨tb,1,none⟩ (.string (Qad p').text)).setCell ⟨tb,2,none⟩ (.slice (some ⟨w7.heap.size,0,none⟩) 1 1)).setCell ⟨tb,3,none⟩ (.slice (some ⟨w7.heap.size+1,0,none⟩) 2 2)):=(((Rest.set1 _ _ _).trans (Rest.set1 _ _ _)).trans (Rest.set1 _ _ _)).trans (Rest.set1 _ _ _);have g0:(w7.setCell ⟨tb,0,none⟩ (.int .i64 21)).heap[tb]? = some (.cells #[.int .i64 21,.string v.text,.slice v.la v.ll v.lc,.slice v.ka v.kl v.kc] 25 (0,0)):=Qa5 HV6.out rfl;have g1:((w7.setCell ⟨tb,0,none⟩ (.int .i64 21)).setCell ⟨tb,1,none⟩ (.string (Qad p').text)).heap[tb]? = some (.cells #[.int .i64 21,.string (Qad p').text,.slice v.la v.ll v.lc,.slice v.ka v.kl v.kc] 25 (0,0)):=Qa5 g0 rfl;have g2:(((w7.setCell ⟨tb,0,none⟩ (.int .i64 21)).setCell ⟨tb,1,none⟩ (.string (Qad p').text)).setCell ⟨tb,2,none⟩ (.slice (some ⟨w7.heap.size,0,none⟩) 1 1)).heap[tb]? = some (.cells #[.int .i64 21,.string (Qad p').text,.slice (some ⟨w7.heap.size,0,none⟩) 1 1,.slice v.ka v.kl v.kc] 25 (0,0)):=Qa5 g1 rfl;have g3:((((w7.setCell ⟨tb,0,none⟩ (.int .i64 21)).setCell ⟨tb,1,none⟩ (.string (Qad p').text)).setCell ⟨tb,2,none⟩ (.slice (some ⟨w7.heap.size,0,none⟩) 1 1)).setCell ⟨tb,3,none⟩ (.slice (some ⟨w7.heap.size+1,0,none⟩) 2 2)).heap[tb]? = some (.cells #[.int .i64 21,.string (Qad p').text,.slice (some ⟨w7.heap.size,0,none⟩) 1 1,.slice (some ⟨w7.heap.size+1,0,none⟩) 2 2] 25 (0,0)):=Qa5 g2 rfl;have hs4:((((w7.setCell ⟨tb,0,none⟩ (.int .i64 21)).setCell ⟨tb,1,none⟩ (.string (Qad p').text)).setCell ⟨tb,2,none⟩ (.slice (some ⟨w7.heap.size,0,none⟩) 1 1)).setCell ⟨tb,3,none⟩ (.slice (some ⟨w7.heap.size+1,0,none⟩) 2 2)).heap.size=w7.heap.size:=by simp [World.setCell]
     clear g0 g1 g2
     generalize ((((w7.setCell ⟨tb,0,none⟩ (.int .i64 21)).setCell ⟨tb,1,none⟩ (.string (Qad p').text)).setCell ⟨tb,2,none⟩ (.slice (some ⟨w7.heap.size,0,none⟩) 1 1)).setCell ⟨tb,3,none⟩ (.slice (some ⟨w7.heap.size+1,0,none⟩) 2 2))=s4 at hR g3 hs4 ⊢
     have htb1:tb<w7.heap.size:=Qab HV6.out;have hwtb:w.heap.size+1≤tb:=by have:=HTB.out;have:=HON.out.size;have:=HW1.out;omega
     have hbw:=HLT.out;have h6:=HS6.out;have h7:=HS7.out;have h8:=HT8.out;have hb2:b<tb:=by omega
     have hA:Rest (fun _=>False) s4 ((s4.alloc (.cells #[.string (Qad p').lead] 9)).alloc (.cells #[.int .i64 v.kind,.string v.text,.slice v.la v.ll v.lc,.slice v.ka v.kl v.kc,.int .i64 v6.kind,.string v6.text,.slice v6.la v6.ll v6.lc,.slice v6.ka v6.kl v6.kc] 25)):=(Rest.alloc _).trans (Rest.alloc _);have hsz:((s4.alloc (.cells #[.string (Qad p').lead] 9)).alloc (.cells #[.int .i64 v.kind,.string v.text,.slice v.la v.ll v.lc,.slice v.ka v.kl v.kc,.int .i64 v6.kind,.string v6.text,.slice v6.la v6.ll v6.lc,.slice v6.ka v6.kl v6.kc] 25)).heap.size=w7.heap.size+1+1:=by rw [xI,xI,hs4]
     have hx1:((s4.alloc (.cells #[.string (Qad p').lead] 9)).alloc (.cells #[.int .i64 v.kind,.string v.text,.slice v.la v.ll v.lc,.slice v.ka v.kl v.kc,.int .i64 v6.kind,.string v6.text,.slice v6.la v6.ll v6.lc,.slice v6.ka v6.kl v6.kc] 25)).heap[w7.heap.size]? = some (.cells #[.string (Qad p').lead] 9 (0,0)):=(Below.heap_alloc _ _ _ (by rw [xI];omega)).trans (by rw [←hs4];exact xH s4 _);have hx2:((s4.alloc (.cells #[.string (Qad p').lead] 9)).alloc (.cells #[.int .i64 v.kind,.string v.text,.slice v.la v.ll v.lc,.slice v.ka v.kl v.kc,.int .i64 v6.kind,.string v6.text,.slice v6.la v6.ll v6.lc,.slice v6.ka v6.kl v6.kc] 25)).heap[w7.heap.size+1]? = some (.cells #[.int .i64 v.kind,.string v.text,.slice v.la v.ll v.lc,.slice v.ka v.kl v.kc,.int .i64 v6.kind,.string v6.text,.slice v6.la v6.ll v6.lc,.slice v6.ka v6.kl v6.kc] 25 (0,0)):=by rw [←hs4];exact Qhy s4 _ _ _
     have hg3:((s4.alloc (.cells #[.string (Qad p').lead] 9)).alloc (.cells #[.int .i64 v.kind,.string v.text,.slice v.la v.ll v.lc,.slice v.ka v.kl v.kc,.int .i64 v6.kind,.string v6.text,.slice v6.la v6.ll v6.lc,.slice v6.ka v6.kl v6.kc] 25)).heap[tb]? = _:=(hA.block tb (by omega) (fun h=>h)).trans g3;have hRA:Rest (fun k=>k=tb) w7 ((s4.alloc (.cells #[.string (Qad p').lead] 9)).alloc (.cells #[.int .i64 v.kind,.string v.text,.slice v.la v.ll v.lc,.slice v.ka v.kl v.kc,.int .i64 v6.kind,.string v6.text,.slice v6.la v6.ll v6.lc,.slice v6.ka v6.kl v6.kc] 25)):=hR.trans (hA.mono (fun _ _ h=>h.elim))
     generalize ((s4.alloc (.cells #[.string (Qad p').lead] 9)).alloc (.cells #[.int .i64 v.kind,.string v.text,.slice v.la v.ll v.lc,.slice v.ka v.kl v.kc,.int .i64 v6.kind,.string v6.text,.slice v6.la v6.ll v6.lc,.slice v6.ka v6.kl v6.kc] 25))=wf at hsz hx1 hx2 hg3 hRA ⊢
     have ht':TrAt (fun k=>w.heap.size+1≤k∧k<wf.heap.size∧k≠tb) wf tt v:=by
      have t1:=Qr0 (S':=fun k=>w.heap.size+1≤k∧k<w7.heap.size∧k≠tb) HTR.out (HO6.out.trans HD7.out) (fun k hk=>by have:=hk.1;omega) (fun k hk=>⟨hk.1,by have:=hk.2.1;omega,hk.2.2⟩);exact TrAt.move (fun k hk=>⟨hk.1,by have:=hk.2.1;omega,hk.2.2⟩) (fun k hk hlt=>hRA.block k hlt hk.2.2) _ _ t1
     have hu':TrAt (fun k=>w.heap.size+1≤k∧k<wf.heap.size∧k≠tb) wf u v6:=by
      have t1:=Qr0 (S':=fun k=>w.heap.size+1≤k∧k<w7.heap.size∧k≠tb) HT6.out HD7.out (fun k hk=>by have:=hk.1;rw [xI] at this;have:=HP5.out.lt;omega) (fun k hk=>⟨by have:=hk.1;rw [xI] at this;have:=HOF.out.size;have:=HON.out.size;have:=HW1.out;omega,by have:=hk.2;omega,by have:=hk.1;rw [xI] at this;have:=Qab HV.out;omega⟩);exact TrAt.move (fun k hk=>⟨hk.1,by have:=hk.2.1;omega,hk.2.2⟩) (fun k hk hlt=>hRA.block k hlt hk.2.2) _ _ t1
     refine ⟨.mk 21 (Qad p').text [(Qad p').lead] [tt,u],⟨21,(Qad p').text,some ⟨w7.heap.size,0,none⟩,1,1,some ⟨w7.heap.size+1,0,none⟩,2,2⟩,q1,HNX.out,hg3,Zek (Qaa hx1 0 _ rfl) ⟨by omega,by omega⟩ ⟨by omega,by omega⟩ hx2 ht' hu',?_,?_,(hRA.block w.heap.size (by omega) (by omega)).trans HRB6.out⟩
     ·exact (HP6.out.keep HB7.out).upto fun k hk=>hRA.block k (by omega) (by omega)
     ·have hOA:=HOF.out.trans (HO6.out.trans HD7.out);exact ⟨hRA.os.trans hOA.os,hRA.tape.trans hOA.tape,hRA.output.trans hOA.output,xQ hOA.size hRA.size,fun k hk hkb=>(hRA.block k (xE hk hOA.size) (by omega)).trans (hOA.block k hk hkb)⟩
   ·have HE:=hQ he;clear he hop;go_wp2_with fail
    go_at_call 132;refine (Qax _ HPP.out).mono ?_;rintro e w3 ⟨rfl,hb3⟩;have HB3:=hQ hb3;clear hb3;go_wp2_with fail
    go_at_call 134;refine (Qfm (Qad p') _).mono ?_;rintro e w4 ⟨rfl,hb4⟩;have HB4:=hQ (HB3.out.trans (hb4.mono HB3.out.size));clear hb4
    replace HV:=hQ ((HB4.out.block tb (Qab HV.out)).trans HV.out)
    replace HRB:=hQ ((HB4.out.block w.heap.size (Qab HRB.out)).trans HRB.out)
    replace HTR:=hQ (Qr0 (S':=fun k=>w.heap.size+1≤k∧k<w4.heap.size∧k≠tb) HTR.out (Off.of (b:=b) HB4.out) (fun k hk=>by have:=HLT.out;have:=hk.1;omega) (fun k hk=>⟨hk.1,xE hk.2.1 HB4.out.size,hk.2.2⟩))
    replace HPP:=hQ (HPP.out.keep HB4.out)
    replace HOF:=hQ (HOF.out.trans (Off.of HB4.out))
    have he:=HE.out;injection he with he1 he2;subst he1 he2;have k0:=Qaa HV.out 0 _ rfl;have k1:=Qaa HV.out 1 _ rfl;have k2:=Qaa HV.out 2 _ rfl;have k3:=Qaa HV.out 3 _ rfl;have r0:=Qaa HRB.out 0 _ rfl;have r1:=Qaa HRB.out 1 _ rfl;have r2:=Qaa HRB.out 2 _ rfl;have r3:=Qaa HRB.out 3 _ rfl;have rf:=xL HRB.out
    go_wp2
    refine bodyPost_ret (v:=.agg #[.int .i64 v.kind,.string v.text,.slice v.la v.ll v.lc,.slice v.ka v.kl v.kc]) (by simp [results,Tryz.results85,go_sem, *]) rfl ?_;have hoff:=(((HOF.out.setNew (xA _) 0 (.int .i64 v.kind)).setNew (xA _) 1 (.string v.text)).setNew (xA _) 2 (.slice v.la v.ll v.lc)).setNew (xA _) 3 (.slice v.ka v.kl v.kc);have hR:=(((Rest.set1 (w:=w4) w.heap.size 0 (.int .i64 v.kind)).trans (Rest.set1 w.heap.size 1 (.string v.text))).trans (Rest.set1 w.heap.size 2 (.slice v.la v.ll v.lc))).trans (Rest.set1 w.heap.size 3 (.slice v.ka v.kl v.kc));refine ⟨v,rfl,TrAt.move (fun k hk=>⟨by have:=hk.1;omega,xE hk.2.1 hR.size⟩) (fun k hk hlt=>hR.block k hlt (fun e:k=w.heap.size=>by have:=hk.1;omega)) _ _ HTR.out,HPP.out.upto fun k hk=>hR.block k (by have:=HPP.out.lt;omega) (fun e:k=w.heap.size=>by have:=HLT.out;omega),hoff⟩
   ·have HE:=hQ he;clear he hop;have he:=HE.out;injection he with he1 he2;subst he1 he2;have k0:=Qaa HV.out 0 _ rfl;have k1:=Qaa HV.out 1 _ rfl;have k2:=Qaa HV.out 2 _ rfl;have k3:=Qaa HV.out 3 _ rfl;have r0:=Qaa HRB.out 0 _ rfl;have r1:=Qaa HRB.out 1 _ rfl;have r2:=Qaa HRB.out 2 _ rfl;have r3:=Qaa HRB.out 3 _ rfl;have rf:=xL HRB.out
    go_wp2
    refine bodyPost_ret (v:=.agg #[.int .i64 v.kind,.string v.text,.slice v.la v.ll v.lc,.slice v.ka v.kl v.kc]) (by simp [results,Tryz.results85,go_sem, *]) rfl ?_;have hoff:=(((HOF.out.setNew (xA _) 0 (.int .i64 v.kind)).setNew (xA _) 1 (.string v.text)).setNew (xA _) 2 (.slice v.la v.ll v.lc)).setNew (xA _) 3 (.slice v.ka v.kl v.kc);have hR:=(((Rest.set1 (w:=wr) w.heap.size 0 (.int .i64 v.kind)).trans (Rest.set1 w.heap.size 1 (.string v.text))).trans (Rest.set1 w.heap.size 2 (.slice v.la v.ll v.lc))).trans (Rest.set1 w.heap.size 3 (.slice v.ka v.kl v.kc));refine ⟨v,rfl,TrAt.move (fun k hk=>⟨by have:=hk.1;omega,xE hk.2.1 hR.size⟩) (fun k hk hlt=>hR.block k hlt (fun e:k=w.heap.size=>by have:=hk.1;omega)) _ _ HTR.out,HPP.out.upto fun k hk=>hR.block k (by have:=HPP.out.lt;omega) (fun e:k=w.heap.size=>by have:=HLT.out;omega),hoff⟩
end Go.Proofs.YtfjpemdejoejbaaGreat
